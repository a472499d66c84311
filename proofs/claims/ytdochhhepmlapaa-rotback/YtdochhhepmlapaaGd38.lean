/- Parts of the proof. -/
import Derived.Test.YtdochhhepmlapaaGd37
import Derived.Test.YtdochhhepmlapaaGd31
/- The walk of the law RotBack. No statement of the seat is proved here. -/
namespace Go.Proofs.Ytdochhhepmlapaa
open Go Go.RowKit
set_option maxRecDepth 100000 in
set_option maxHeartbeats 12800000 in
theorem rb_w (x : Vc) (hHa : ∀ W : World, Calls Try.prog 36 #[.agg (cT idT), .agg (cT (mulT (expT x) (turnT (expT x))))] W (PVal (.bool true) W)) (hHb : ∀ W : World, Calls Try.prog 36 #[.agg (cT idT), .agg (cT (mulT (turnT (expT x)) (expT x)))] W (PVal (.bool true) W)) (hHd : ∀ W : World, Calls Try.prog 40 #[.agg (cS (detT (expT x))), .int .i64 1048576] W (PVal (.bool true) W)) (w : World)   : Calls Try.prog 5 #[.agg (cV x)] w (PVal (.bool true) w) := by
 have Ha := Lib.hid hHa
 have Hb := Lib.hid hHb
 have Hd := Lib.hid hHd
 clear hHa hHb hHd
 have hJ0 := es_nil w
 go_enter Try.func5, Try.ntmps5
 go_wp2_with (refine stop_box 25 (.tmp 0) (cV x) rfl rfl rfl hJ0 (fun bk1 W1 hJ1 => ?_))
 clear hJ0
 unfold Stop
 try simp only [Act.put, List.setIfInBounds_toArray, List.set_cons_succ, List.set_cons_zero]
 go_wp2_with fail
 refine (rawake_any W1).mono ?_
 rintro zz W2 ⟨rfl, hB⟩
 have hJ2 := hJ1.later hB
 clear hB
 clear hJ1
 go_wp2_with (refine stop_op rfl (fun K hK => wp_load 25 (.tmp 1) rfl bk1 0 9 (cV x) (cV x) 25 (hJ2.at' _ (List.mem_of_getElem? (i := 0) rfl)) rfl ag25 sz25 (Nat.le_of_ble_eq_true (by kernel_rfl)) (by kernel_rfl) (hK _ _ ?_)))
 unfold Stop
 try simp only [Act.put, List.setIfInBounds_toArray, List.set_cons_succ, List.set_cons_zero]
 go_wp2_with fail
 refine (tExp_any x W2).mono ?_
 rintro zz W3 ⟨rfl, hB⟩
 have hJ3 := hJ2.later hB
 clear hB
 clear hJ2
 go_wp2_with (refine stop_alloc 50 (cT zT) (.agg (cT zT)) rfl rfl zv50 rfl hJ3 (fun bk2 W4 hJ4 => ?_))
 clear hJ3
 unfold Stop
 try simp only [Act.put, List.setIfInBounds_toArray, List.set_cons_succ, List.set_cons_zero]
 go_wp2_with (refine stop_store 50 (.tmp 4) (.tmp 17) 0 bk2 0 (cT zT) 50 27 (cT (expT x)).toList (cT (expT x)) [(bk2, (cT (expT x)), 50), (bk1, (cV x), 25)] rfl rfl rfl rfl sz50 hJ4 rfl (by kernel_rfl) (Nat.le_of_ble_eq_true (by kernel_rfl)) (by kernel_rfl) (by kernel_rfl) (by kernel_rfl) (fun W5 hJ5 => ?_))
 clear hJ4
 unfold Stop
 try simp only [Act.put, List.setIfInBounds_toArray, List.set_cons_succ, List.set_cons_zero]
 go_wp2
 obtain ⟨m3_5, hm⟩ : ∃ m, m = W5.heap.size := ⟨_, rfl⟩
 have hM := hJ5.em
 rw [← hm] at hM
 clear hm hJ5
 refine wp_region_z 7 [some 18, some 19, some 20, some 21, some 22, some 23, some 5] (veL m3_5 [.eq (.agg (cT idT)), .eq (.agg (cT (expT x))), .eq (.agg (cT (expT x))), .eq (.agg (cT (turnT (expT x)))), .eq (.agg (cT (mulT (expT x) (turnT (expT x))))), .eq (.bool true), .eq (.bool true)]) (Em w m3_5 [(bk2, (cT (expT x)), 50), (bk1, (cV x), 25)]) (by kernel_rfl) (by kernel_rfl) (by rfl) (by decide) (by rfl) hM ?_ ?_
 ·
  intro i hl hi uu ww aa hJ hd hev hin
  clear hM
  obtain rfl | rfl | rfl | rfl | rfl | rfl | rfl : i = 0 ∨ i = 1 ∨ i = 2 ∨ i = 3 ∨ i = 4 ∨ i = 5 ∨ i = 6 := by omega
  ·
   exact .inr ⟨rfl, fun K' hK => wp_callv (.func 35) #[] _ 35 #[] #[] #[] rfl rfl (by simp) (by kernel_rfl) (fun _ _ => by kernel_rfl) (tId_any ww) (fun _ hB => (hK _ _ (hJ.later hB) rfl (veL_later hB)))⟩
  ·
   exact .inr ⟨rfl, fun K' hK => wp_load 50 (.tmp 4) rfl bk2 0 27 (cT (expT x)) (cT (expT x)) 50 (hJ.es.at' _ (List.mem_of_getElem? (i := 0) rfl)) (eval_tmp ((hev 4 (by decide)).trans rfl)) ag50 sz50 (Nat.le_of_ble_eq_true (by kernel_rfl)) (by kernel_rfl) (hK _ _ hJ rfl veL_same)⟩
  ·
   exact .inr ⟨rfl, fun K' hK => wp_load 50 (.tmp 4) rfl bk2 0 27 (cT (expT x)) (cT (expT x)) 50 (hJ.es.at' _ (List.mem_of_getElem? (i := 0) rfl)) (eval_tmp ((hev 4 (by decide)).trans rfl)) ag50 sz50 (Nat.le_of_ble_eq_true (by kernel_rfl)) (by kernel_rfl) (hK _ _ hJ rfl veL_same)⟩
  ·
   exact .inr ⟨rfl, fun K' hK => wp_callv (.func 38) #[.tmp 20] _ 38 #[] #[.agg (cT (expT x))] #[.agg (cT (expT x))] rfl rfl (map1 (eval_tmp ((hin 2 20 rfl).trans (congrArg some (show uu 2 = .agg (cT (expT x)) from hd 2 (by decide) (by kernel_rfl)))))) (by kernel_rfl) (fun _ _ => by kernel_rfl) (tTurn_any (expT x) ww) (fun _ hB => (hK _ _ (hJ.later hB) rfl (veL_later hB)))⟩
  ·
   exact .inr ⟨rfl, fun K' hK => wp_callv (.func 37) #[.tmp 19, .tmp 21] _ 37 #[] #[.agg (cT (expT x)), .agg (cT (turnT (expT x)))] #[.agg (cT (expT x)), .agg (cT (turnT (expT x)))] rfl rfl (map2 (eval_tmp ((hin 1 19 rfl).trans (congrArg some (show uu 1 = .agg (cT (expT x)) from hd 1 (by decide) (by kernel_rfl))))) (eval_tmp ((hin 3 21 rfl).trans (congrArg some (show uu 3 = .agg (cT (turnT (expT x))) from hd 3 (by decide) (by kernel_rfl)))))) (by kernel_rfl) (fun _ _ => by kernel_rfl) (tMul_any (expT x) (turnT (expT x)) ww) (fun _ hB => (hK _ _ (hJ.later hB) rfl (veL_later hB)))⟩
  ·
   exact .inr ⟨rfl, fun K' hK => wp_callv (.func 36) #[.tmp 18, .tmp 22] _ 36 #[] #[.agg (cT idT), .agg (cT (mulT (expT x) (turnT (expT x))))] #[.agg (cT idT), .agg (cT (mulT (expT x) (turnT (expT x))))] rfl rfl (map2 (eval_tmp ((hin 0 18 rfl).trans (congrArg some (show uu 0 = .agg (cT idT) from hd 0 (by decide) (by kernel_rfl))))) (eval_tmp ((hin 4 22 rfl).trans (congrArg some (show uu 4 = .agg (cT (mulT (expT x) (turnT (expT x)))) from hd 4 (by decide) (by kernel_rfl)))))) (by kernel_rfl) (fun _ _ => by kernel_rfl) (Ha.out ww) (fun _ hB => (hK _ _ (hJ.later hB) rfl (veL_later hB)))⟩
  ·
   exact .inr ⟨rfl, fun K' hK => wp_asgn (.tmp 23) rfl (eval_tmp ((hin 5 23 rfl).trans (congrArg some (show uu 5 = .bool true from hd 5 (by decide) (by kernel_rfl))))) (hK _ _ hJ rfl veL_same)⟩
 clear hM
 intro uu W6 hJm hd
 have e_0 : uu 0 = .agg (cT idT) := hd 0 (by decide)
 have e_1 : uu 1 = .agg (cT (expT x)) := hd 1 (by decide)
 have e_2 : uu 2 = .agg (cT (expT x)) := hd 2 (by decide)
 have e_3 : uu 3 = .agg (cT (turnT (expT x))) := hd 3 (by decide)
 have e_4 : uu 4 = .agg (cT (mulT (expT x) (turnT (expT x)))) := hd 4 (by decide)
 have e_5 : uu 5 = .bool true := hd 5 (by decide)
 have e_6 : uu 6 = .bool true := hd 6 (by decide)
 clear hd
 simp only [layS, Act.put, List.setIfInBounds_toArray, List.set_cons_succ, List.set_cons_zero, Nat.zero_add, Nat.reduceAdd, List.drop_succ_cons, List.drop_zero, List.drop_nil, e_0, e_1, e_2, e_3, e_4, e_5, e_6]
 clear e_0 e_1 e_2 e_3 e_4 e_5 e_6
 have hJ6 := hJm.es
 clear hJm
 go_wp2
 obtain ⟨m4_6, hm⟩ : ∃ m, m = W6.heap.size := ⟨_, rfl⟩
 have hM := hJ6.em
 rw [← hm] at hM
 clear hm hJ6
 refine wp_region_z 7 [some 24, some 25, some 26, some 27, some 28, some 29, some 6] (veL m4_6 [.eq (.agg (cT idT)), .eq (.agg (cT (expT x))), .eq (.agg (cT (turnT (expT x)))), .eq (.agg (cT (expT x))), .eq (.agg (cT (mulT (turnT (expT x)) (expT x)))), .eq (.bool true), .eq (.bool true)]) (Em w m4_6 [(bk2, (cT (expT x)), 50), (bk1, (cV x), 25)]) (by kernel_rfl) (by kernel_rfl) (by rfl) (by decide) (by rfl) hM ?_ ?_
 ·
  intro i hl hi uu ww aa hJ hd hev hin
  clear hM
  obtain rfl | rfl | rfl | rfl | rfl | rfl | rfl : i = 0 ∨ i = 1 ∨ i = 2 ∨ i = 3 ∨ i = 4 ∨ i = 5 ∨ i = 6 := by omega
  ·
   exact .inr ⟨rfl, fun K' hK => wp_callv (.func 35) #[] _ 35 #[] #[] #[] rfl rfl (by simp) (by kernel_rfl) (fun _ _ => by kernel_rfl) (tId_any ww) (fun _ hB => (hK _ _ (hJ.later hB) rfl (veL_later hB)))⟩
  ·
   exact .inr ⟨rfl, fun K' hK => wp_load 50 (.tmp 4) rfl bk2 0 27 (cT (expT x)) (cT (expT x)) 50 (hJ.es.at' _ (List.mem_of_getElem? (i := 0) rfl)) (eval_tmp ((hev 4 (by decide)).trans rfl)) ag50 sz50 (Nat.le_of_ble_eq_true (by kernel_rfl)) (by kernel_rfl) (hK _ _ hJ rfl veL_same)⟩
  ·
   exact .inr ⟨rfl, fun K' hK => wp_callv (.func 38) #[.tmp 25] _ 38 #[] #[.agg (cT (expT x))] #[.agg (cT (expT x))] rfl rfl (map1 (eval_tmp ((hin 1 25 rfl).trans (congrArg some (show uu 1 = .agg (cT (expT x)) from hd 1 (by decide) (by kernel_rfl)))))) (by kernel_rfl) (fun _ _ => by kernel_rfl) (tTurn_any (expT x) ww) (fun _ hB => (hK _ _ (hJ.later hB) rfl (veL_later hB)))⟩
  ·
   exact .inr ⟨rfl, fun K' hK => wp_load 50 (.tmp 4) rfl bk2 0 27 (cT (expT x)) (cT (expT x)) 50 (hJ.es.at' _ (List.mem_of_getElem? (i := 0) rfl)) (eval_tmp ((hev 4 (by decide)).trans rfl)) ag50 sz50 (Nat.le_of_ble_eq_true (by kernel_rfl)) (by kernel_rfl) (hK _ _ hJ rfl veL_same)⟩
  ·
   exact .inr ⟨rfl, fun K' hK => wp_callv (.func 37) #[.tmp 26, .tmp 27] _ 37 #[] #[.agg (cT (turnT (expT x))), .agg (cT (expT x))] #[.agg (cT (turnT (expT x))), .agg (cT (expT x))] rfl rfl (map2 (eval_tmp ((hin 2 26 rfl).trans (congrArg some (show uu 2 = .agg (cT (turnT (expT x))) from hd 2 (by decide) (by kernel_rfl))))) (eval_tmp ((hin 3 27 rfl).trans (congrArg some (show uu 3 = .agg (cT (expT x)) from hd 3 (by decide) (by kernel_rfl)))))) (by kernel_rfl) (fun _ _ => by kernel_rfl) (tMul_any (turnT (expT x)) (expT x) ww) (fun _ hB => (hK _ _ (hJ.later hB) rfl (veL_later hB)))⟩
  ·
   exact .inr ⟨rfl, fun K' hK => wp_callv (.func 36) #[.tmp 24, .tmp 28] _ 36 #[] #[.agg (cT idT), .agg (cT (mulT (turnT (expT x)) (expT x)))] #[.agg (cT idT), .agg (cT (mulT (turnT (expT x)) (expT x)))] rfl rfl (map2 (eval_tmp ((hin 0 24 rfl).trans (congrArg some (show uu 0 = .agg (cT idT) from hd 0 (by decide) (by kernel_rfl))))) (eval_tmp ((hin 4 28 rfl).trans (congrArg some (show uu 4 = .agg (cT (mulT (turnT (expT x)) (expT x))) from hd 4 (by decide) (by kernel_rfl)))))) (by kernel_rfl) (fun _ _ => by kernel_rfl) (Hb.out ww) (fun _ hB => (hK _ _ (hJ.later hB) rfl (veL_later hB)))⟩
  ·
   exact .inr ⟨rfl, fun K' hK => wp_asgn (.tmp 29) rfl (eval_tmp ((hin 5 29 rfl).trans (congrArg some (show uu 5 = .bool true from hd 5 (by decide) (by kernel_rfl))))) (hK _ _ hJ rfl veL_same)⟩
 clear hM
 intro uu W7 hJm hd
 have e_0 : uu 0 = .agg (cT idT) := hd 0 (by decide)
 have e_1 : uu 1 = .agg (cT (expT x)) := hd 1 (by decide)
 have e_2 : uu 2 = .agg (cT (turnT (expT x))) := hd 2 (by decide)
 have e_3 : uu 3 = .agg (cT (expT x)) := hd 3 (by decide)
 have e_4 : uu 4 = .agg (cT (mulT (turnT (expT x)) (expT x))) := hd 4 (by decide)
 have e_5 : uu 5 = .bool true := hd 5 (by decide)
 have e_6 : uu 6 = .bool true := hd 6 (by decide)
 clear hd
 simp only [layS, Act.put, List.setIfInBounds_toArray, List.set_cons_succ, List.set_cons_zero, Nat.zero_add, Nat.reduceAdd, List.drop_succ_cons, List.drop_zero, List.drop_nil, e_0, e_1, e_2, e_3, e_4, e_5, e_6]
 clear e_0 e_1 e_2 e_3 e_4 e_5 e_6
 have hJ7 := hJm.es
 clear hJm
 go_wp2_with (refine stop_op rfl (fun K hK => wp_load 50 (.tmp 4) rfl bk2 0 27 (cT (expT x)) (cT (expT x)) 50 (hJ7.at' _ (List.mem_of_getElem? (i := 0) rfl)) rfl ag50 sz50 (Nat.le_of_ble_eq_true (by kernel_rfl)) (by kernel_rfl) (hK _ _ ?_)))
 unfold Stop
 try simp only [Act.put, List.setIfInBounds_toArray, List.set_cons_succ, List.set_cons_zero]
 go_wp2_with fail
 refine (tDet_any (expT x) W7).mono ?_
 rintro zz W8 ⟨rfl, hB⟩
 have hJ8 := hJ7.later hB
 clear hB
 clear hJ7
 go_wp2_with fail
 refine (Hd.out _).mono ?_
 rintro zz W9 ⟨rfl, hB⟩
 have hJ9 := hJ8.later hB
 clear hB
 clear hJ8
 go_wp2
 obtain ⟨m6_9, hm⟩ : ∃ m, m = W9.heap.size := ⟨_, rfl⟩
 have hM := hJ9.em
 rw [← hm] at hM
 clear hm hJ9
 refine wp_region_z 5 [some 33, some 34, some 35, some 36, some 8] (veL m6_9 [.eq (.agg (cV (ofV 0 0 0))), .eq (.agg (cV x)), .eq (.agg (cV (subV (ofV 0 0 0) x))), .eq (.agg (cT (expT (subV (ofV 0 0 0) x)))), .box (cT zT) 50]) (Em w m6_9 [(bk2, (cT (expT x)), 50), (bk1, (cV x), 25)]) (by kernel_rfl) (by kernel_rfl) (by rfl) (by decide) (by rfl) hM ?_ ?_
 ·
  intro i hl hi uu ww aa hJ hd hev hin
  clear hM
  obtain rfl | rfl | rfl | rfl | rfl : i = 0 ∨ i = 1 ∨ i = 2 ∨ i = 3 ∨ i = 4 := by omega
  ·
   exact .inr ⟨rfl, fun K' hK => wp_callv (.func 28) #[.const (.int .i64 0), .const (.int .i64 0), .const (.int .i64 0)] _ 28 #[] #[.int .i64 0, .int .i64 0, .int .i64 0] #[.int .i64 0, .int .i64 0, .int .i64 0] rfl rfl (map3 rfl rfl rfl) (by kernel_rfl) (fun _ _ => by kernel_rfl) (vOf_any 0 0 0 ww) (fun _ hB => (hK _ _ (hJ.later hB) rfl (veL_later hB)))⟩
  ·
   exact .inr ⟨rfl, fun K' hK => wp_load 25 (.tmp 1) rfl bk1 0 9 (cV x) (cV x) 25 (hJ.es.at' _ (List.mem_of_getElem? (i := 1) rfl)) (eval_tmp ((hev 1 (by decide)).trans rfl)) ag25 sz25 (Nat.le_of_ble_eq_true (by kernel_rfl)) (by kernel_rfl) (hK _ _ hJ rfl veL_same)⟩
  ·
   exact .inr ⟨rfl, fun K' hK => wp_callv (.func 13) #[.tmp 33, .tmp 34] _ 13 #[] #[.agg (cV (ofV 0 0 0)), .agg (cV x)] #[.agg (cV (ofV 0 0 0)), .agg (cV x)] rfl rfl (map2 (eval_tmp ((hin 0 33 rfl).trans (congrArg some (show uu 0 = .agg (cV (ofV 0 0 0)) from hd 0 (by decide) (by kernel_rfl))))) (eval_tmp ((hin 1 34 rfl).trans (congrArg some (show uu 1 = .agg (cV x) from hd 1 (by decide) (by kernel_rfl)))))) (by kernel_rfl) (fun _ _ => by kernel_rfl) (vSub_any (ofV 0 0 0) x ww) (fun _ hB => (hK _ _ (hJ.later hB) rfl (veL_later hB)))⟩
  ·
   exact .inr ⟨rfl, fun K' hK => wp_callv (.func 34) #[.tmp 35] _ 34 #[] #[.agg (cV (subV (ofV 0 0 0) x))] #[.agg (cV (subV (ofV 0 0 0) x))] rfl rfl (map1 (eval_tmp ((hin 2 35 rfl).trans (congrArg some (show uu 2 = .agg (cV (subV (ofV 0 0 0) x)) from hd 2 (by decide) (by kernel_rfl)))))) (by kernel_rfl) (fun _ _ => by kernel_rfl) (tExp_any (subV (ofV 0 0 0) x) ww) (fun _ hB => (hK _ _ (hJ.later hB) rfl (veL_later hB)))⟩
  ·
   exact .inr ⟨rfl, fun K' hK => wp_alloc 50 rfl (.agg (cT zT)) zv50 (hK _ _ (hJ.later ((Below.refl _ _).alloc (Nat.le_refl _) _)) ⟨ww.heap.size, rfl, hJ.le, heap_new ww _⟩ (veL_later ((Below.refl _ _).alloc (Nat.le_refl _) _)))⟩
 clear hM
 intro uu W10 hJm hd
 have e_0 : uu 0 = .agg (cV (ofV 0 0 0)) := hd 0 (by decide)
 have e_1 : uu 1 = .agg (cV x) := hd 1 (by decide)
 have e_2 : uu 2 = .agg (cV (subV (ofV 0 0 0) x)) := hd 2 (by decide)
 have e_3 : uu 3 = .agg (cT (expT (subV (ofV 0 0 0) x))) := hd 3 (by decide)
 obtain ⟨bk3, e_4, nge4, nB4⟩ := (show veP m6_9 (.box (cT zT) 50) (uu 4) W10 from hd 4 (by decide))
 clear hd
 simp only [layS, Act.put, List.setIfInBounds_toArray, List.set_cons_succ, List.set_cons_zero, Nat.zero_add, Nat.reduceAdd, List.drop_succ_cons, List.drop_zero, List.drop_nil, e_0, e_1, e_2, e_3, e_4]
 clear e_0 e_1 e_2 e_3 e_4
 have hJ10 := hJm.join nge4 nB4
 clear hJm nge4 nB4
 go_wp2_with (refine stop_store 50 (.tmp 8) (.tmp 36) 0 bk3 0 (cT zT) 50 27 (cT (expT (subV (ofV 0 0 0) x))).toList (cT (expT (subV (ofV 0 0 0) x))) [(bk3, (cT (expT (subV (ofV 0 0 0) x))), 50), (bk2, (cT (expT x)), 50), (bk1, (cV x), 25)] rfl rfl rfl rfl sz50 hJ10 rfl (by kernel_rfl) (Nat.le_of_ble_eq_true (by kernel_rfl)) (by kernel_rfl) (by kernel_rfl) (by kernel_rfl) (fun W11 hJ11 => ?_))
 clear hJ10
 unfold Stop
 try simp only [Act.put, List.setIfInBounds_toArray, List.set_cons_succ, List.set_cons_zero]
 go_wp2_with (refine stop_op rfl (fun K hK => wp_load 50 (.tmp 4) rfl bk2 0 27 (cT (expT x)) (cT (expT x)) 50 (hJ11.at' _ (List.mem_of_getElem? (i := 1) rfl)) rfl ag50 sz50 (Nat.le_of_ble_eq_true (by kernel_rfl)) (by kernel_rfl) (hK _ _ ?_)))
 unfold Stop
 try simp only [Act.put, List.setIfInBounds_toArray, List.set_cons_succ, List.set_cons_zero]
 go_wp2_with fail
 refine (tTurn_any (expT x) W11).mono ?_
 rintro zz W12 ⟨rfl, hB⟩
 have hJ12 := hJ11.later hB
 clear hB
 clear hJ11
 go_wp2_with (refine stop_alloc 50 (cT zT) (.agg (cT zT)) rfl rfl zv50 rfl hJ12 (fun bk4 W13 hJ13 => ?_))
 clear hJ12
 unfold Stop
 try simp only [Act.put, List.setIfInBounds_toArray, List.set_cons_succ, List.set_cons_zero]
 go_wp2_with (refine stop_store 50 (.tmp 9) (.tmp 38) 0 bk4 0 (cT zT) 50 27 (cT (turnT (expT x))).toList (cT (turnT (expT x))) [(bk4, (cT (turnT (expT x))), 50), (bk3, (cT (expT (subV (ofV 0 0 0) x))), 50), (bk2, (cT (expT x)), 50), (bk1, (cV x), 25)] rfl rfl rfl rfl sz50 hJ13 rfl (by kernel_rfl) (Nat.le_of_ble_eq_true (by kernel_rfl)) (by kernel_rfl) (by kernel_rfl) (by kernel_rfl) (fun W14 hJ14 => ?_))
 clear hJ13
 unfold Stop
 try simp only [Act.put, List.setIfInBounds_toArray, List.set_cons_succ, List.set_cons_zero]
 go_wp2
 refine wp_loop_rounds 4 ?_
 rw [rounds_succ]
 go_wp2
 refine wp_loop_rounds 4 ?_
 rw [rounds_succ]
 go_wp2
 obtain ⟨m15_14, hm⟩ : ∃ m, m = W14.heap.size := ⟨_, rfl⟩
 have hM : ∀ uu, Jz w m15_14 [(bk4, (cT (turnT (expT x))), 50), (bk3, (cT (expT (subV (ofV 0 0 0) x))), 50), (bk2, (cT (expT x)), 50), (bk1, (cV x), 25)] [(14, 3, 23)] [(15, 14, (cS (meetS (expT (subV (ofV 0 0 0) x)).a.x (turnT (expT x)).a.x)), 23)] (fun _ => false) uu W14.drew := fun uu => by rw [hm]; exact Jz.start hJ14 uu
 clear hm hJ14
 refine wp_region_y 17 [some 48, some 49, some 50, some 51, some 52, some 53, some 54, some 55, some 56, some 57, some 58, some 47, some 59, some 60, some 13, none, some 14] (veL m15_14 [.eq (.int .i64 0), .eq (.int .i64 0), .eq (.pointer (some ⟨bk3, 0, none⟩)), .eq (.pointer (some ⟨bk3, 0, none⟩)), .eq (.agg (cS (expT (subV (ofV 0 0 0) x)).a.x)), .eq (.int .i64 0), .eq (.int .i64 0), .eq (.pointer (some ⟨bk4, 0, none⟩)), .eq (.pointer (some ⟨bk4, 0, none⟩)), .eq (.agg (cS (turnT (expT x)).a.x)), .eq (.tuple #[.agg (cS (meetS (expT (subV (ofV 0 0 0) x)).a.x (turnT (expT x)).a.x)), .bool true]), .eq (.tuple #[.agg (cS (meetS (expT (subV (ofV 0 0 0) x)).a.x (turnT (expT x)).a.x)), .bool true]), .eq (.agg (cS (meetS (expT (subV (ofV 0 0 0) x)).a.x (turnT (expT x)).a.x))), .eq (.bool true), .any, .any, .eq (.bool true)]) (Jz w m15_14 [(bk4, (cT (turnT (expT x))), 50), (bk3, (cT (expT (subV (ofV 0 0 0) x))), 50), (bk2, (cT (expT x)), 50), (bk1, (cV x), 25)] [(14, 3, 23)] [(15, 14, (cS (meetS (expT (subV (ofV 0 0 0) x)).a.x (turnT (expT x)).a.x)), 23)]) (by kernel_rfl) (by kernel_rfl) (by rfl) (by decide) (by rfl) hM ?_ ?_
 ·
  intro i hl hi LL uu ww aa hLi hJ hd hev hin
  clear hM
  obtain rfl | rfl | rfl | rfl | rfl | rfl | rfl | rfl | rfl | rfl | rfl | rfl | rfl | rfl | rfl | rfl | rfl : i = 0 ∨ i = 1 ∨ i = 2 ∨ i = 3 ∨ i = 4 ∨ i = 5 ∨ i = 6 ∨ i = 7 ∨ i = 8 ∨ i = 9 ∨ i = 10 ∨ i = 11 ∨ i = 12 ∨ i = 13 ∨ i = 14 ∨ i = 15 ∨ i = 16 := by omega
  ·
   exact .inr ⟨rfl, fun K' hK => wp_move (.tmp 11) rfl (eval_tmp ((hev 11 (by decide)).trans rfl)) (hK _ _ (hJ.grow hLi (by simp) (by simp) (Below.refl _ _)) rfl veL_same)⟩
  ·
   exact .inr ⟨rfl, fun K' hK => wp_move (.tmp 12) rfl (eval_tmp ((hev 12 (by decide)).trans rfl)) (hK _ _ (hJ.grow hLi (by simp) (by simp) (Below.refl _ _)) rfl veL_same)⟩
  ·
   exact .inr ⟨rfl, fun K' hK => wp_ixa 50 (.tmp 8) (.tmp 48) rfl (eval_tmp ((hev 8 (by decide)).trans rfl)) (eval_tmp ((hin 0 48 rfl).trans (congrArg some (show uu 0 = .int .i64 0 from (hd 0 (by decide) (by kernel_rfl)).2)))) (fun _ => by kernel_rfl) (hK _ _ (hJ.grow hLi (by simp) (by simp) (Below.refl _ _)) rfl veL_same)⟩
  ·
   exact .inr ⟨rfl, fun K' hK => wp_ixa 25 (.tmp 50) (.tmp 49) rfl (eval_tmp ((hin 2 50 rfl).trans (congrArg some (show uu 2 = .pointer (some ⟨bk3, 0, none⟩) from (hd 2 (by decide) (by kernel_rfl)).2)))) (eval_tmp ((hin 1 49 rfl).trans (congrArg some (show uu 1 = .int .i64 0 from (hd 1 (by decide) (by kernel_rfl)).2)))) (fun _ => by kernel_rfl) (hK _ _ (hJ.grow hLi (by simp) (by simp) (Below.refl _ _)) rfl veL_same)⟩
  ·
   exact .inr ⟨rfl, fun K' hK => wp_load 23 (.tmp 51) rfl bk3 0 3 (cT (expT (subV (ofV 0 0 0) x))) (cS (expT (subV (ofV 0 0 0) x)).a.x) 50 (hJ.em.es.at' _ (List.mem_of_getElem? (i := 1) rfl)) (eval_tmp ((hin 3 51 rfl).trans (congrArg some (show uu 3 = .pointer (some ⟨bk3, 0, none⟩) from (hd 3 (by decide) (by kernel_rfl)).2)))) ag23 sz23 (Nat.le_of_ble_eq_true (by kernel_rfl)) (by kernel_rfl) (hK _ _ (hJ.grow hLi (by simp) (by simp) (Below.refl _ _)) rfl veL_same)⟩
  ·
   exact .inr ⟨rfl, fun K' hK => wp_move (.tmp 11) rfl (eval_tmp ((hev 11 (by decide)).trans rfl)) (hK _ _ (hJ.grow hLi (by simp) (by simp) (Below.refl _ _)) rfl veL_same)⟩
  ·
   exact .inr ⟨rfl, fun K' hK => wp_move (.tmp 12) rfl (eval_tmp ((hev 12 (by decide)).trans rfl)) (hK _ _ (hJ.grow hLi (by simp) (by simp) (Below.refl _ _)) rfl veL_same)⟩
  ·
   exact .inr ⟨rfl, fun K' hK => wp_ixa 50 (.tmp 9) (.tmp 53) rfl (eval_tmp ((hev 9 (by decide)).trans rfl)) (eval_tmp ((hin 5 53 rfl).trans (congrArg some (show uu 5 = .int .i64 0 from (hd 5 (by decide) (by kernel_rfl)).2)))) (fun _ => by kernel_rfl) (hK _ _ (hJ.grow hLi (by simp) (by simp) (Below.refl _ _)) rfl veL_same)⟩
  ·
   exact .inr ⟨rfl, fun K' hK => wp_ixa 25 (.tmp 55) (.tmp 54) rfl (eval_tmp ((hin 7 55 rfl).trans (congrArg some (show uu 7 = .pointer (some ⟨bk4, 0, none⟩) from (hd 7 (by decide) (by kernel_rfl)).2)))) (eval_tmp ((hin 6 54 rfl).trans (congrArg some (show uu 6 = .int .i64 0 from (hd 6 (by decide) (by kernel_rfl)).2)))) (fun _ => by kernel_rfl) (hK _ _ (hJ.grow hLi (by simp) (by simp) (Below.refl _ _)) rfl veL_same)⟩
  ·
   exact .inr ⟨rfl, fun K' hK => wp_load 23 (.tmp 56) rfl bk4 0 3 (cT (turnT (expT x))) (cS (turnT (expT x)).a.x) 50 (hJ.em.es.at' _ (List.mem_of_getElem? (i := 0) rfl)) (eval_tmp ((hin 8 56 rfl).trans (congrArg some (show uu 8 = .pointer (some ⟨bk4, 0, none⟩) from (hd 8 (by decide) (by kernel_rfl)).2)))) ag23 sz23 (Nat.le_of_ble_eq_true (by kernel_rfl)) (by kernel_rfl) (hK _ _ (hJ.grow hLi (by simp) (by simp) (Below.refl _ _)) rfl veL_same)⟩
  ·
   exact .inr ⟨rfl, fun K' hK => wp_callv (.func 41) #[.tmp 52, .tmp 57] _ 41 #[] #[.agg (cS (expT (subV (ofV 0 0 0) x)).a.x), .agg (cS (turnT (expT x)).a.x)] #[.agg (cS (expT (subV (ofV 0 0 0) x)).a.x), .agg (cS (turnT (expT x)).a.x)] rfl rfl (map2 (eval_tmp ((hin 4 52 rfl).trans (congrArg some (show uu 4 = .agg (cS (expT (subV (ofV 0 0 0) x)).a.x) from (hd 4 (by decide) (by kernel_rfl)).2)))) (eval_tmp ((hin 9 57 rfl).trans (congrArg some (show uu 9 = .agg (cS (turnT (expT x)).a.x) from (hd 9 (by decide) (by kernel_rfl)).2))))) (by kernel_rfl) (fun _ _ => by kernel_rfl) (meet_yes (back_m x).1.1 ww) (fun _ hB => (hK _ _ (hJ.grow hLi (by simp) (by simp) hB) rfl (veL_flat rfl)))⟩
  ·
   exact .inr ⟨rfl, fun K' hK => wp_move (.tmp 58) rfl (eval_tmp ((hin 10 58 rfl).trans (congrArg some (show uu 10 = .tuple #[.agg (cS (meetS (expT (subV (ofV 0 0 0) x)).a.x (turnT (expT x)).a.x)), .bool true] from (hd 10 (by decide) (by kernel_rfl)).2)))) (hK _ _ (hJ.grow hLi (by simp) (by simp) (Below.refl _ _)) rfl veL_same)⟩
  ·
   exact .inr ⟨rfl, fun K' hK => wp_ext (.tmp 47) 0 rfl (eval_tmp ((hin 11 47 rfl).trans (congrArg some (show uu 11 = .tuple #[.agg (cS (meetS (expT (subV (ofV 0 0 0) x)).a.x (turnT (expT x)).a.x)), .bool true] from (hd 11 (by decide) (by kernel_rfl)).2)))) (fun _ => rfl) (hK _ _ (hJ.grow hLi (by simp) (by simp) (Below.refl _ _)) rfl veL_same)⟩
  ·
   exact .inr ⟨rfl, fun K' hK => wp_ext (.tmp 47) 1 rfl (eval_tmp ((hin 11 47 rfl).trans (congrArg some (show uu 11 = .tuple #[.agg (cS (meetS (expT (subV (ofV 0 0 0) x)).a.x (turnT (expT x)).a.x)), .bool true] from (hd 11 (by decide) (by kernel_rfl)).2)))) (fun _ => rfl) (hK _ _ (hJ.grow hLi (by simp) (by simp) (Below.refl _ _)) rfl veL_same)⟩
  ·
   exact .inr ⟨rfl, fun K' hK => wp_alloc 23 rfl (.agg (cS zS)) zv23 (hK _ _ (hJ.alloc hLi (n := 3) rfl (by simp) (by simp)) trivial (veL_flat rfl))⟩
  ·
   have hLa := (hd 14 (by decide) (by kernel_rfl)).1
   obtain ⟨kb, kC, ke, kge, ksz, kcl⟩ := hJ.bx (14, 3, 23) (by simp) hLa
   have x13 : aa.tmps[13]? = some (.pointer (some ⟨kb, 0, none⟩)) := (hin 14 13 rfl).trans (congrArg some ke)
   have x59 : aa.tmps[59]? = some (.agg (cS (meetS (expT (subV (ofV 0 0 0) x)).a.x (turnT (expT x)).a.x))) := ((hin 12 59 rfl).trans (congrArg some (show uu 12 = .agg (cS (meetS (expT (subV (ofV 0 0 0) x)).a.x (turnT (expT x)).a.x)) from (hd 12 (by decide) (by kernel_rfl)).2)))
   clear hd hev hin
   simp only [List.getElem_cons_succ, List.getElem_cons_zero]
   clear hl
   refine .inr ⟨rfl, fun K' hK => ?_⟩
   have HK := Lib.hid hK
   clear hK
   refine wp_store 23 (.tmp 13) (.tmp 59) rfl 0 kb 0 kC 23 3 (cS (meetS (expT (subV (ofV 0 0 0) x)).a.x (turnT (expT x)).a.x)).toList (hJ.em.join kge kcl) rfl (eval_tmp x13) (by rw [eval_tmp x59]; rfl) sz23 (by kernel_rfl) (by rw [ksz]; decide) (by kernel_rfl) (fun ww2 hE hk hz => ?_)
   rw [putC_full (show kC.size = (cS (meetS (expT (subV (ofV 0 0 0) x)).a.x (turnT (expT x)).a.x)).toList.length from ksz), Array.toArray_toList] at hE
   exact HK.out undef _ (hJ.store (a := 14) (n := 3) (T := 23) (Cn := (cS (meetS (expT (subV (ofV 0 0 0) x)).a.x (turnT (expT x)).a.x))) hLi (by simp) (by simp) (by simp) (by simp) (by simp) (by simp) hLa ke kge rfl hE hk hz) trivial (veL_flat rfl)
  ·
   exact .inr ⟨rfl, fun K' hK => wp_asgn (.tmp 60) rfl (eval_tmp ((hin 13 60 rfl).trans (congrArg some (show uu 13 = .bool true from (hd 13 (by decide) (by kernel_rfl)).2)))) (hK _ _ (hJ.grow hLi (by simp) (by simp) (Below.refl _ _)) rfl veL_same)⟩
 clear hM
 intro LL uu W15 hLL hJm hd
 have e_0 : uu 0 = .int .i64 0 := hd 0 (by decide)
 have e_1 : uu 1 = .int .i64 0 := hd 1 (by decide)
 have e_2 : uu 2 = .pointer (some ⟨bk3, 0, none⟩) := hd 2 (by decide)
 have e_3 : uu 3 = .pointer (some ⟨bk3, 0, none⟩) := hd 3 (by decide)
 have e_4 : uu 4 = .agg (cS (expT (subV (ofV 0 0 0) x)).a.x) := hd 4 (by decide)
 have e_5 : uu 5 = .int .i64 0 := hd 5 (by decide)
 have e_6 : uu 6 = .int .i64 0 := hd 6 (by decide)
 have e_7 : uu 7 = .pointer (some ⟨bk4, 0, none⟩) := hd 7 (by decide)
 have e_8 : uu 8 = .pointer (some ⟨bk4, 0, none⟩) := hd 8 (by decide)
 have e_9 : uu 9 = .agg (cS (turnT (expT x)).a.x) := hd 9 (by decide)
 have e_10 : uu 10 = .tuple #[.agg (cS (meetS (expT (subV (ofV 0 0 0) x)).a.x (turnT (expT x)).a.x)), .bool true] := hd 10 (by decide)
 have e_11 : uu 11 = .tuple #[.agg (cS (meetS (expT (subV (ofV 0 0 0) x)).a.x (turnT (expT x)).a.x)), .bool true] := hd 11 (by decide)
 have e_12 : uu 12 = .agg (cS (meetS (expT (subV (ofV 0 0 0) x)).a.x (turnT (expT x)).a.x)) := hd 12 (by decide)
 have e_13 : uu 13 = .bool true := hd 13 (by decide)
 obtain ⟨bk5, kC14, e_14, nge14, ksz14, nB14⟩ := hJm.bx (14, 3, 23) (by simp) (hLL 14 (by decide))
 have e_16 : uu 16 = .bool true := hd 16 (by decide)
 obtain ⟨_, kb15, ke15, kl15⟩ := hJm.st (15, 14, (cS (meetS (expT (subV (ofV 0 0 0) x)).a.x (turnT (expT x)).a.x)), 23) (by simp) (hLL 15 (by decide))
 have kq15 : kb15 = bk5 := by
  have hq := ke15.symm.trans e_14
  injection hq with hq
  injection hq with hq
  injection hq with hq
 subst kq15
 clear ke15
 have g14 := hJm.em.join nge14 kl15
 clear hd hLL
 simp only [layS, Act.put, List.setIfInBounds_toArray, List.set_cons_succ, List.set_cons_zero, Nat.zero_add, Nat.reduceAdd, List.drop_succ_cons, List.drop_zero, List.drop_nil, e_0, e_1, e_2, e_3, e_4, e_5, e_6, e_7, e_8, e_9, e_10, e_11, e_12, e_13, e_14, e_16]
 have hJ15 := g14
 clear hJm e_0 e_1 e_2 e_3 e_4 e_5 e_6 e_7 e_8 e_9 e_10 e_11 e_12 e_13 e_14 e_16 nge14 nB14 ksz14 g14
 have hJ15d := hJ15.sub (List.sublist_cons_self _ _)
 clear hJ15
 go_wp2
 rw [rounds_succ]
 go_wp2
 obtain ⟨m15_15, hm⟩ : ∃ m, m = W15.heap.size := ⟨_, rfl⟩
 have hM : ∀ uu, Jz w m15_15 [(bk4, (cT (turnT (expT x))), 50), (bk3, (cT (expT (subV (ofV 0 0 0) x))), 50), (bk2, (cT (expT x)), 50), (bk1, (cV x), 25)] [(14, 3, 23)] [(15, 14, (cS (meetS (expT (subV (ofV 0 0 0) x)).a.y (turnT (expT x)).a.y)), 23)] (fun _ => false) uu W15.drew := fun uu => by rw [hm]; exact Jz.start hJ15d uu
 clear hm hJ15d
 refine wp_region_y 17 [some 48, some 49, some 50, some 51, some 52, some 53, some 54, some 55, some 56, some 57, some 58, some 47, some 59, some 60, some 13, none, some 14] (veL m15_15 [.eq (.int .i64 0), .eq (.int .i64 1), .eq (.pointer (some ⟨bk3, 0, none⟩)), .eq (.pointer (some ⟨bk3, 3, none⟩)), .eq (.agg (cS (expT (subV (ofV 0 0 0) x)).a.y)), .eq (.int .i64 0), .eq (.int .i64 1), .eq (.pointer (some ⟨bk4, 0, none⟩)), .eq (.pointer (some ⟨bk4, 3, none⟩)), .eq (.agg (cS (turnT (expT x)).a.y)), .eq (.tuple #[.agg (cS (meetS (expT (subV (ofV 0 0 0) x)).a.y (turnT (expT x)).a.y)), .bool true]), .eq (.tuple #[.agg (cS (meetS (expT (subV (ofV 0 0 0) x)).a.y (turnT (expT x)).a.y)), .bool true]), .eq (.agg (cS (meetS (expT (subV (ofV 0 0 0) x)).a.y (turnT (expT x)).a.y))), .eq (.bool true), .any, .any, .eq (.bool true)]) (Jz w m15_15 [(bk4, (cT (turnT (expT x))), 50), (bk3, (cT (expT (subV (ofV 0 0 0) x))), 50), (bk2, (cT (expT x)), 50), (bk1, (cV x), 25)] [(14, 3, 23)] [(15, 14, (cS (meetS (expT (subV (ofV 0 0 0) x)).a.y (turnT (expT x)).a.y)), 23)]) (by kernel_rfl) (by kernel_rfl) (by rfl) (by decide) (by rfl) hM ?_ ?_
 ·
  intro i hl hi LL uu ww aa hLi hJ hd hev hin
  clear hM
  obtain rfl | rfl | rfl | rfl | rfl | rfl | rfl | rfl | rfl | rfl | rfl | rfl | rfl | rfl | rfl | rfl | rfl : i = 0 ∨ i = 1 ∨ i = 2 ∨ i = 3 ∨ i = 4 ∨ i = 5 ∨ i = 6 ∨ i = 7 ∨ i = 8 ∨ i = 9 ∨ i = 10 ∨ i = 11 ∨ i = 12 ∨ i = 13 ∨ i = 14 ∨ i = 15 ∨ i = 16 := by omega
  ·
   exact .inr ⟨rfl, fun K' hK => wp_move (.tmp 11) rfl (eval_tmp ((hev 11 (by decide)).trans rfl)) (hK _ _ (hJ.grow hLi (by simp) (by simp) (Below.refl _ _)) rfl veL_same)⟩
  ·
   exact .inr ⟨rfl, fun K' hK => wp_move (.tmp 12) rfl (eval_tmp ((hev 12 (by decide)).trans rfl)) (hK _ _ (hJ.grow hLi (by simp) (by simp) (Below.refl _ _)) rfl veL_same)⟩
  ·
   exact .inr ⟨rfl, fun K' hK => wp_ixa 50 (.tmp 8) (.tmp 48) rfl (eval_tmp ((hev 8 (by decide)).trans rfl)) (eval_tmp ((hin 0 48 rfl).trans (congrArg some (show uu 0 = .int .i64 0 from (hd 0 (by decide) (by kernel_rfl)).2)))) (fun _ => by kernel_rfl) (hK _ _ (hJ.grow hLi (by simp) (by simp) (Below.refl _ _)) rfl veL_same)⟩
  ·
   exact .inr ⟨rfl, fun K' hK => wp_ixa 25 (.tmp 50) (.tmp 49) rfl (eval_tmp ((hin 2 50 rfl).trans (congrArg some (show uu 2 = .pointer (some ⟨bk3, 0, none⟩) from (hd 2 (by decide) (by kernel_rfl)).2)))) (eval_tmp ((hin 1 49 rfl).trans (congrArg some (show uu 1 = .int .i64 1 from (hd 1 (by decide) (by kernel_rfl)).2)))) (fun _ => by kernel_rfl) (hK _ _ (hJ.grow hLi (by simp) (by simp) (Below.refl _ _)) rfl veL_same)⟩
  ·
   exact .inr ⟨rfl, fun K' hK => wp_load 23 (.tmp 51) rfl bk3 3 3 (cT (expT (subV (ofV 0 0 0) x))) (cS (expT (subV (ofV 0 0 0) x)).a.y) 50 (hJ.em.es.at' _ (List.mem_of_getElem? (i := 1) rfl)) (eval_tmp ((hin 3 51 rfl).trans (congrArg some (show uu 3 = .pointer (some ⟨bk3, 3, none⟩) from (hd 3 (by decide) (by kernel_rfl)).2)))) ag23 sz23 (Nat.le_of_ble_eq_true (by kernel_rfl)) (by kernel_rfl) (hK _ _ (hJ.grow hLi (by simp) (by simp) (Below.refl _ _)) rfl veL_same)⟩
  ·
   exact .inr ⟨rfl, fun K' hK => wp_move (.tmp 11) rfl (eval_tmp ((hev 11 (by decide)).trans rfl)) (hK _ _ (hJ.grow hLi (by simp) (by simp) (Below.refl _ _)) rfl veL_same)⟩
  ·
   exact .inr ⟨rfl, fun K' hK => wp_move (.tmp 12) rfl (eval_tmp ((hev 12 (by decide)).trans rfl)) (hK _ _ (hJ.grow hLi (by simp) (by simp) (Below.refl _ _)) rfl veL_same)⟩
  ·
   exact .inr ⟨rfl, fun K' hK => wp_ixa 50 (.tmp 9) (.tmp 53) rfl (eval_tmp ((hev 9 (by decide)).trans rfl)) (eval_tmp ((hin 5 53 rfl).trans (congrArg some (show uu 5 = .int .i64 0 from (hd 5 (by decide) (by kernel_rfl)).2)))) (fun _ => by kernel_rfl) (hK _ _ (hJ.grow hLi (by simp) (by simp) (Below.refl _ _)) rfl veL_same)⟩
  ·
   exact .inr ⟨rfl, fun K' hK => wp_ixa 25 (.tmp 55) (.tmp 54) rfl (eval_tmp ((hin 7 55 rfl).trans (congrArg some (show uu 7 = .pointer (some ⟨bk4, 0, none⟩) from (hd 7 (by decide) (by kernel_rfl)).2)))) (eval_tmp ((hin 6 54 rfl).trans (congrArg some (show uu 6 = .int .i64 1 from (hd 6 (by decide) (by kernel_rfl)).2)))) (fun _ => by kernel_rfl) (hK _ _ (hJ.grow hLi (by simp) (by simp) (Below.refl _ _)) rfl veL_same)⟩
  ·
   exact .inr ⟨rfl, fun K' hK => wp_load 23 (.tmp 56) rfl bk4 3 3 (cT (turnT (expT x))) (cS (turnT (expT x)).a.y) 50 (hJ.em.es.at' _ (List.mem_of_getElem? (i := 0) rfl)) (eval_tmp ((hin 8 56 rfl).trans (congrArg some (show uu 8 = .pointer (some ⟨bk4, 3, none⟩) from (hd 8 (by decide) (by kernel_rfl)).2)))) ag23 sz23 (Nat.le_of_ble_eq_true (by kernel_rfl)) (by kernel_rfl) (hK _ _ (hJ.grow hLi (by simp) (by simp) (Below.refl _ _)) rfl veL_same)⟩
  ·
   exact .inr ⟨rfl, fun K' hK => wp_callv (.func 41) #[.tmp 52, .tmp 57] _ 41 #[] #[.agg (cS (expT (subV (ofV 0 0 0) x)).a.y), .agg (cS (turnT (expT x)).a.y)] #[.agg (cS (expT (subV (ofV 0 0 0) x)).a.y), .agg (cS (turnT (expT x)).a.y)] rfl rfl (map2 (eval_tmp ((hin 4 52 rfl).trans (congrArg some (show uu 4 = .agg (cS (expT (subV (ofV 0 0 0) x)).a.y) from (hd 4 (by decide) (by kernel_rfl)).2)))) (eval_tmp ((hin 9 57 rfl).trans (congrArg some (show uu 9 = .agg (cS (turnT (expT x)).a.y) from (hd 9 (by decide) (by kernel_rfl)).2))))) (by kernel_rfl) (fun _ _ => by kernel_rfl) (meet_yes (back_m x).1.2.1 ww) (fun _ hB => (hK _ _ (hJ.grow hLi (by simp) (by simp) hB) rfl (veL_flat rfl)))⟩
  ·
   exact .inr ⟨rfl, fun K' hK => wp_move (.tmp 58) rfl (eval_tmp ((hin 10 58 rfl).trans (congrArg some (show uu 10 = .tuple #[.agg (cS (meetS (expT (subV (ofV 0 0 0) x)).a.y (turnT (expT x)).a.y)), .bool true] from (hd 10 (by decide) (by kernel_rfl)).2)))) (hK _ _ (hJ.grow hLi (by simp) (by simp) (Below.refl _ _)) rfl veL_same)⟩
  ·
   exact .inr ⟨rfl, fun K' hK => wp_ext (.tmp 47) 0 rfl (eval_tmp ((hin 11 47 rfl).trans (congrArg some (show uu 11 = .tuple #[.agg (cS (meetS (expT (subV (ofV 0 0 0) x)).a.y (turnT (expT x)).a.y)), .bool true] from (hd 11 (by decide) (by kernel_rfl)).2)))) (fun _ => rfl) (hK _ _ (hJ.grow hLi (by simp) (by simp) (Below.refl _ _)) rfl veL_same)⟩
  ·
   exact .inr ⟨rfl, fun K' hK => wp_ext (.tmp 47) 1 rfl (eval_tmp ((hin 11 47 rfl).trans (congrArg some (show uu 11 = .tuple #[.agg (cS (meetS (expT (subV (ofV 0 0 0) x)).a.y (turnT (expT x)).a.y)), .bool true] from (hd 11 (by decide) (by kernel_rfl)).2)))) (fun _ => rfl) (hK _ _ (hJ.grow hLi (by simp) (by simp) (Below.refl _ _)) rfl veL_same)⟩
  ·
   exact .inr ⟨rfl, fun K' hK => wp_alloc 23 rfl (.agg (cS zS)) zv23 (hK _ _ (hJ.alloc hLi (n := 3) rfl (by simp) (by simp)) trivial (veL_flat rfl))⟩
  ·
   have hLa := (hd 14 (by decide) (by kernel_rfl)).1
   obtain ⟨kb, kC, ke, kge, ksz, kcl⟩ := hJ.bx (14, 3, 23) (by simp) hLa
   have x13 : aa.tmps[13]? = some (.pointer (some ⟨kb, 0, none⟩)) := (hin 14 13 rfl).trans (congrArg some ke)
   have x59 : aa.tmps[59]? = some (.agg (cS (meetS (expT (subV (ofV 0 0 0) x)).a.y (turnT (expT x)).a.y))) := ((hin 12 59 rfl).trans (congrArg some (show uu 12 = .agg (cS (meetS (expT (subV (ofV 0 0 0) x)).a.y (turnT (expT x)).a.y)) from (hd 12 (by decide) (by kernel_rfl)).2)))
   clear hd hev hin
   simp only [List.getElem_cons_succ, List.getElem_cons_zero]
   clear hl
   refine .inr ⟨rfl, fun K' hK => ?_⟩
   have HK := Lib.hid hK
   clear hK
   refine wp_store 23 (.tmp 13) (.tmp 59) rfl 0 kb 0 kC 23 3 (cS (meetS (expT (subV (ofV 0 0 0) x)).a.y (turnT (expT x)).a.y)).toList (hJ.em.join kge kcl) rfl (eval_tmp x13) (by rw [eval_tmp x59]; rfl) sz23 (by kernel_rfl) (by rw [ksz]; decide) (by kernel_rfl) (fun ww2 hE hk hz => ?_)
   rw [putC_full (show kC.size = (cS (meetS (expT (subV (ofV 0 0 0) x)).a.y (turnT (expT x)).a.y)).toList.length from ksz), Array.toArray_toList] at hE
   exact HK.out undef _ (hJ.store (a := 14) (n := 3) (T := 23) (Cn := (cS (meetS (expT (subV (ofV 0 0 0) x)).a.y (turnT (expT x)).a.y))) hLi (by simp) (by simp) (by simp) (by simp) (by simp) (by simp) hLa ke kge rfl hE hk hz) trivial (veL_flat rfl)
  ·
   exact .inr ⟨rfl, fun K' hK => wp_asgn (.tmp 60) rfl (eval_tmp ((hin 13 60 rfl).trans (congrArg some (show uu 13 = .bool true from (hd 13 (by decide) (by kernel_rfl)).2)))) (hK _ _ (hJ.grow hLi (by simp) (by simp) (Below.refl _ _)) rfl veL_same)⟩
 clear hM
 intro LL uu W16 hLL hJm hd
 have e_0 : uu 0 = .int .i64 0 := hd 0 (by decide)
 have e_1 : uu 1 = .int .i64 1 := hd 1 (by decide)
 have e_2 : uu 2 = .pointer (some ⟨bk3, 0, none⟩) := hd 2 (by decide)
 have e_3 : uu 3 = .pointer (some ⟨bk3, 3, none⟩) := hd 3 (by decide)
 have e_4 : uu 4 = .agg (cS (expT (subV (ofV 0 0 0) x)).a.y) := hd 4 (by decide)
 have e_5 : uu 5 = .int .i64 0 := hd 5 (by decide)
 have e_6 : uu 6 = .int .i64 1 := hd 6 (by decide)
 have e_7 : uu 7 = .pointer (some ⟨bk4, 0, none⟩) := hd 7 (by decide)
 have e_8 : uu 8 = .pointer (some ⟨bk4, 3, none⟩) := hd 8 (by decide)
 have e_9 : uu 9 = .agg (cS (turnT (expT x)).a.y) := hd 9 (by decide)
 have e_10 : uu 10 = .tuple #[.agg (cS (meetS (expT (subV (ofV 0 0 0) x)).a.y (turnT (expT x)).a.y)), .bool true] := hd 10 (by decide)
 have e_11 : uu 11 = .tuple #[.agg (cS (meetS (expT (subV (ofV 0 0 0) x)).a.y (turnT (expT x)).a.y)), .bool true] := hd 11 (by decide)
 have e_12 : uu 12 = .agg (cS (meetS (expT (subV (ofV 0 0 0) x)).a.y (turnT (expT x)).a.y)) := hd 12 (by decide)
 have e_13 : uu 13 = .bool true := hd 13 (by decide)
 obtain ⟨bk6, kC14, e_14, nge14, ksz14, nB14⟩ := hJm.bx (14, 3, 23) (by simp) (hLL 14 (by decide))
 have e_16 : uu 16 = .bool true := hd 16 (by decide)
 obtain ⟨_, kb15, ke15, kl15⟩ := hJm.st (15, 14, (cS (meetS (expT (subV (ofV 0 0 0) x)).a.y (turnT (expT x)).a.y)), 23) (by simp) (hLL 15 (by decide))
 have kq15 : kb15 = bk6 := by
  have hq := ke15.symm.trans e_14
  injection hq with hq
  injection hq with hq
  injection hq with hq
 subst kq15
 clear ke15
 have g14 := hJm.em.join nge14 kl15
 clear hd hLL
 simp only [layS, Act.put, List.setIfInBounds_toArray, List.set_cons_succ, List.set_cons_zero, Nat.zero_add, Nat.reduceAdd, List.drop_succ_cons, List.drop_zero, List.drop_nil, e_0, e_1, e_2, e_3, e_4, e_5, e_6, e_7, e_8, e_9, e_10, e_11, e_12, e_13, e_14, e_16]
 have hJ16 := g14
 clear hJm e_0 e_1 e_2 e_3 e_4 e_5 e_6 e_7 e_8 e_9 e_10 e_11 e_12 e_13 e_14 e_16 nge14 nB14 ksz14 g14
 have hJ16d := hJ16.sub (List.sublist_cons_self _ _)
 clear hJ16
 go_wp2
 rw [rounds_succ]
 go_wp2
 obtain ⟨m15_16, hm⟩ : ∃ m, m = W16.heap.size := ⟨_, rfl⟩
 have hM : ∀ uu, Jz w m15_16 [(bk4, (cT (turnT (expT x))), 50), (bk3, (cT (expT (subV (ofV 0 0 0) x))), 50), (bk2, (cT (expT x)), 50), (bk1, (cV x), 25)] [(14, 3, 23)] [(15, 14, (cS (meetS (expT (subV (ofV 0 0 0) x)).a.z (turnT (expT x)).a.z)), 23)] (fun _ => false) uu W16.drew := fun uu => by rw [hm]; exact Jz.start hJ16d uu
 clear hm hJ16d
 refine wp_region_y 17 [some 48, some 49, some 50, some 51, some 52, some 53, some 54, some 55, some 56, some 57, some 58, some 47, some 59, some 60, some 13, none, some 14] (veL m15_16 [.eq (.int .i64 0), .eq (.int .i64 2), .eq (.pointer (some ⟨bk3, 0, none⟩)), .eq (.pointer (some ⟨bk3, 6, none⟩)), .eq (.agg (cS (expT (subV (ofV 0 0 0) x)).a.z)), .eq (.int .i64 0), .eq (.int .i64 2), .eq (.pointer (some ⟨bk4, 0, none⟩)), .eq (.pointer (some ⟨bk4, 6, none⟩)), .eq (.agg (cS (turnT (expT x)).a.z)), .eq (.tuple #[.agg (cS (meetS (expT (subV (ofV 0 0 0) x)).a.z (turnT (expT x)).a.z)), .bool true]), .eq (.tuple #[.agg (cS (meetS (expT (subV (ofV 0 0 0) x)).a.z (turnT (expT x)).a.z)), .bool true]), .eq (.agg (cS (meetS (expT (subV (ofV 0 0 0) x)).a.z (turnT (expT x)).a.z))), .eq (.bool true), .any, .any, .eq (.bool true)]) (Jz w m15_16 [(bk4, (cT (turnT (expT x))), 50), (bk3, (cT (expT (subV (ofV 0 0 0) x))), 50), (bk2, (cT (expT x)), 50), (bk1, (cV x), 25)] [(14, 3, 23)] [(15, 14, (cS (meetS (expT (subV (ofV 0 0 0) x)).a.z (turnT (expT x)).a.z)), 23)]) (by kernel_rfl) (by kernel_rfl) (by rfl) (by decide) (by rfl) hM ?_ ?_
 ·
  intro i hl hi LL uu ww aa hLi hJ hd hev hin
  clear hM
  obtain rfl | rfl | rfl | rfl | rfl | rfl | rfl | rfl | rfl | rfl | rfl | rfl | rfl | rfl | rfl | rfl | rfl : i = 0 ∨ i = 1 ∨ i = 2 ∨ i = 3 ∨ i = 4 ∨ i = 5 ∨ i = 6 ∨ i = 7 ∨ i = 8 ∨ i = 9 ∨ i = 10 ∨ i = 11 ∨ i = 12 ∨ i = 13 ∨ i = 14 ∨ i = 15 ∨ i = 16 := by omega
  ·
   exact .inr ⟨rfl, fun K' hK => wp_move (.tmp 11) rfl (eval_tmp ((hev 11 (by decide)).trans rfl)) (hK _ _ (hJ.grow hLi (by simp) (by simp) (Below.refl _ _)) rfl veL_same)⟩
  ·
   exact .inr ⟨rfl, fun K' hK => wp_move (.tmp 12) rfl (eval_tmp ((hev 12 (by decide)).trans rfl)) (hK _ _ (hJ.grow hLi (by simp) (by simp) (Below.refl _ _)) rfl veL_same)⟩
  ·
   exact .inr ⟨rfl, fun K' hK => wp_ixa 50 (.tmp 8) (.tmp 48) rfl (eval_tmp ((hev 8 (by decide)).trans rfl)) (eval_tmp ((hin 0 48 rfl).trans (congrArg some (show uu 0 = .int .i64 0 from (hd 0 (by decide) (by kernel_rfl)).2)))) (fun _ => by kernel_rfl) (hK _ _ (hJ.grow hLi (by simp) (by simp) (Below.refl _ _)) rfl veL_same)⟩
  ·
   exact .inr ⟨rfl, fun K' hK => wp_ixa 25 (.tmp 50) (.tmp 49) rfl (eval_tmp ((hin 2 50 rfl).trans (congrArg some (show uu 2 = .pointer (some ⟨bk3, 0, none⟩) from (hd 2 (by decide) (by kernel_rfl)).2)))) (eval_tmp ((hin 1 49 rfl).trans (congrArg some (show uu 1 = .int .i64 2 from (hd 1 (by decide) (by kernel_rfl)).2)))) (fun _ => by kernel_rfl) (hK _ _ (hJ.grow hLi (by simp) (by simp) (Below.refl _ _)) rfl veL_same)⟩
  ·
   exact .inr ⟨rfl, fun K' hK => wp_load 23 (.tmp 51) rfl bk3 6 3 (cT (expT (subV (ofV 0 0 0) x))) (cS (expT (subV (ofV 0 0 0) x)).a.z) 50 (hJ.em.es.at' _ (List.mem_of_getElem? (i := 1) rfl)) (eval_tmp ((hin 3 51 rfl).trans (congrArg some (show uu 3 = .pointer (some ⟨bk3, 6, none⟩) from (hd 3 (by decide) (by kernel_rfl)).2)))) ag23 sz23 (Nat.le_of_ble_eq_true (by kernel_rfl)) (by kernel_rfl) (hK _ _ (hJ.grow hLi (by simp) (by simp) (Below.refl _ _)) rfl veL_same)⟩
  ·
   exact .inr ⟨rfl, fun K' hK => wp_move (.tmp 11) rfl (eval_tmp ((hev 11 (by decide)).trans rfl)) (hK _ _ (hJ.grow hLi (by simp) (by simp) (Below.refl _ _)) rfl veL_same)⟩
  ·
   exact .inr ⟨rfl, fun K' hK => wp_move (.tmp 12) rfl (eval_tmp ((hev 12 (by decide)).trans rfl)) (hK _ _ (hJ.grow hLi (by simp) (by simp) (Below.refl _ _)) rfl veL_same)⟩
  ·
   exact .inr ⟨rfl, fun K' hK => wp_ixa 50 (.tmp 9) (.tmp 53) rfl (eval_tmp ((hev 9 (by decide)).trans rfl)) (eval_tmp ((hin 5 53 rfl).trans (congrArg some (show uu 5 = .int .i64 0 from (hd 5 (by decide) (by kernel_rfl)).2)))) (fun _ => by kernel_rfl) (hK _ _ (hJ.grow hLi (by simp) (by simp) (Below.refl _ _)) rfl veL_same)⟩
  ·
   exact .inr ⟨rfl, fun K' hK => wp_ixa 25 (.tmp 55) (.tmp 54) rfl (eval_tmp ((hin 7 55 rfl).trans (congrArg some (show uu 7 = .pointer (some ⟨bk4, 0, none⟩) from (hd 7 (by decide) (by kernel_rfl)).2)))) (eval_tmp ((hin 6 54 rfl).trans (congrArg some (show uu 6 = .int .i64 2 from (hd 6 (by decide) (by kernel_rfl)).2)))) (fun _ => by kernel_rfl) (hK _ _ (hJ.grow hLi (by simp) (by simp) (Below.refl _ _)) rfl veL_same)⟩
  ·
   exact .inr ⟨rfl, fun K' hK => wp_load 23 (.tmp 56) rfl bk4 6 3 (cT (turnT (expT x))) (cS (turnT (expT x)).a.z) 50 (hJ.em.es.at' _ (List.mem_of_getElem? (i := 0) rfl)) (eval_tmp ((hin 8 56 rfl).trans (congrArg some (show uu 8 = .pointer (some ⟨bk4, 6, none⟩) from (hd 8 (by decide) (by kernel_rfl)).2)))) ag23 sz23 (Nat.le_of_ble_eq_true (by kernel_rfl)) (by kernel_rfl) (hK _ _ (hJ.grow hLi (by simp) (by simp) (Below.refl _ _)) rfl veL_same)⟩
  ·
   exact .inr ⟨rfl, fun K' hK => wp_callv (.func 41) #[.tmp 52, .tmp 57] _ 41 #[] #[.agg (cS (expT (subV (ofV 0 0 0) x)).a.z), .agg (cS (turnT (expT x)).a.z)] #[.agg (cS (expT (subV (ofV 0 0 0) x)).a.z), .agg (cS (turnT (expT x)).a.z)] rfl rfl (map2 (eval_tmp ((hin 4 52 rfl).trans (congrArg some (show uu 4 = .agg (cS (expT (subV (ofV 0 0 0) x)).a.z) from (hd 4 (by decide) (by kernel_rfl)).2)))) (eval_tmp ((hin 9 57 rfl).trans (congrArg some (show uu 9 = .agg (cS (turnT (expT x)).a.z) from (hd 9 (by decide) (by kernel_rfl)).2))))) (by kernel_rfl) (fun _ _ => by kernel_rfl) (meet_yes (back_m x).1.2.2 ww) (fun _ hB => (hK _ _ (hJ.grow hLi (by simp) (by simp) hB) rfl (veL_flat rfl)))⟩
  ·
   exact .inr ⟨rfl, fun K' hK => wp_move (.tmp 58) rfl (eval_tmp ((hin 10 58 rfl).trans (congrArg some (show uu 10 = .tuple #[.agg (cS (meetS (expT (subV (ofV 0 0 0) x)).a.z (turnT (expT x)).a.z)), .bool true] from (hd 10 (by decide) (by kernel_rfl)).2)))) (hK _ _ (hJ.grow hLi (by simp) (by simp) (Below.refl _ _)) rfl veL_same)⟩
  ·
   exact .inr ⟨rfl, fun K' hK => wp_ext (.tmp 47) 0 rfl (eval_tmp ((hin 11 47 rfl).trans (congrArg some (show uu 11 = .tuple #[.agg (cS (meetS (expT (subV (ofV 0 0 0) x)).a.z (turnT (expT x)).a.z)), .bool true] from (hd 11 (by decide) (by kernel_rfl)).2)))) (fun _ => rfl) (hK _ _ (hJ.grow hLi (by simp) (by simp) (Below.refl _ _)) rfl veL_same)⟩
  ·
   exact .inr ⟨rfl, fun K' hK => wp_ext (.tmp 47) 1 rfl (eval_tmp ((hin 11 47 rfl).trans (congrArg some (show uu 11 = .tuple #[.agg (cS (meetS (expT (subV (ofV 0 0 0) x)).a.z (turnT (expT x)).a.z)), .bool true] from (hd 11 (by decide) (by kernel_rfl)).2)))) (fun _ => rfl) (hK _ _ (hJ.grow hLi (by simp) (by simp) (Below.refl _ _)) rfl veL_same)⟩
  ·
   exact .inr ⟨rfl, fun K' hK => wp_alloc 23 rfl (.agg (cS zS)) zv23 (hK _ _ (hJ.alloc hLi (n := 3) rfl (by simp) (by simp)) trivial (veL_flat rfl))⟩
  ·
   have hLa := (hd 14 (by decide) (by kernel_rfl)).1
   obtain ⟨kb, kC, ke, kge, ksz, kcl⟩ := hJ.bx (14, 3, 23) (by simp) hLa
   have x13 : aa.tmps[13]? = some (.pointer (some ⟨kb, 0, none⟩)) := (hin 14 13 rfl).trans (congrArg some ke)
   have x59 : aa.tmps[59]? = some (.agg (cS (meetS (expT (subV (ofV 0 0 0) x)).a.z (turnT (expT x)).a.z))) := ((hin 12 59 rfl).trans (congrArg some (show uu 12 = .agg (cS (meetS (expT (subV (ofV 0 0 0) x)).a.z (turnT (expT x)).a.z)) from (hd 12 (by decide) (by kernel_rfl)).2)))
   clear hd hev hin
   simp only [List.getElem_cons_succ, List.getElem_cons_zero]
   clear hl
   refine .inr ⟨rfl, fun K' hK => ?_⟩
   have HK := Lib.hid hK
   clear hK
   refine wp_store 23 (.tmp 13) (.tmp 59) rfl 0 kb 0 kC 23 3 (cS (meetS (expT (subV (ofV 0 0 0) x)).a.z (turnT (expT x)).a.z)).toList (hJ.em.join kge kcl) rfl (eval_tmp x13) (by rw [eval_tmp x59]; rfl) sz23 (by kernel_rfl) (by rw [ksz]; decide) (by kernel_rfl) (fun ww2 hE hk hz => ?_)
   rw [putC_full (show kC.size = (cS (meetS (expT (subV (ofV 0 0 0) x)).a.z (turnT (expT x)).a.z)).toList.length from ksz), Array.toArray_toList] at hE
   exact HK.out undef _ (hJ.store (a := 14) (n := 3) (T := 23) (Cn := (cS (meetS (expT (subV (ofV 0 0 0) x)).a.z (turnT (expT x)).a.z))) hLi (by simp) (by simp) (by simp) (by simp) (by simp) (by simp) hLa ke kge rfl hE hk hz) trivial (veL_flat rfl)
  ·
   exact .inr ⟨rfl, fun K' hK => wp_asgn (.tmp 60) rfl (eval_tmp ((hin 13 60 rfl).trans (congrArg some (show uu 13 = .bool true from (hd 13 (by decide) (by kernel_rfl)).2)))) (hK _ _ (hJ.grow hLi (by simp) (by simp) (Below.refl _ _)) rfl veL_same)⟩
 clear hM
 intro LL uu W17 hLL hJm hd
 have e_0 : uu 0 = .int .i64 0 := hd 0 (by decide)
 have e_1 : uu 1 = .int .i64 2 := hd 1 (by decide)
 have e_2 : uu 2 = .pointer (some ⟨bk3, 0, none⟩) := hd 2 (by decide)
 have e_3 : uu 3 = .pointer (some ⟨bk3, 6, none⟩) := hd 3 (by decide)
 have e_4 : uu 4 = .agg (cS (expT (subV (ofV 0 0 0) x)).a.z) := hd 4 (by decide)
 have e_5 : uu 5 = .int .i64 0 := hd 5 (by decide)
 have e_6 : uu 6 = .int .i64 2 := hd 6 (by decide)
 have e_7 : uu 7 = .pointer (some ⟨bk4, 0, none⟩) := hd 7 (by decide)
 have e_8 : uu 8 = .pointer (some ⟨bk4, 6, none⟩) := hd 8 (by decide)
 have e_9 : uu 9 = .agg (cS (turnT (expT x)).a.z) := hd 9 (by decide)
 have e_10 : uu 10 = .tuple #[.agg (cS (meetS (expT (subV (ofV 0 0 0) x)).a.z (turnT (expT x)).a.z)), .bool true] := hd 10 (by decide)
 have e_11 : uu 11 = .tuple #[.agg (cS (meetS (expT (subV (ofV 0 0 0) x)).a.z (turnT (expT x)).a.z)), .bool true] := hd 11 (by decide)
 have e_12 : uu 12 = .agg (cS (meetS (expT (subV (ofV 0 0 0) x)).a.z (turnT (expT x)).a.z)) := hd 12 (by decide)
 have e_13 : uu 13 = .bool true := hd 13 (by decide)
 obtain ⟨bk7, kC14, e_14, nge14, ksz14, nB14⟩ := hJm.bx (14, 3, 23) (by simp) (hLL 14 (by decide))
 have e_16 : uu 16 = .bool true := hd 16 (by decide)
 obtain ⟨_, kb15, ke15, kl15⟩ := hJm.st (15, 14, (cS (meetS (expT (subV (ofV 0 0 0) x)).a.z (turnT (expT x)).a.z)), 23) (by simp) (hLL 15 (by decide))
 have kq15 : kb15 = bk7 := by
  have hq := ke15.symm.trans e_14
  injection hq with hq
  injection hq with hq
  injection hq with hq
 subst kq15
 clear ke15
 have g14 := hJm.em.join nge14 kl15
 clear hd hLL
 simp only [layS, Act.put, List.setIfInBounds_toArray, List.set_cons_succ, List.set_cons_zero, Nat.zero_add, Nat.reduceAdd, List.drop_succ_cons, List.drop_zero, List.drop_nil, e_0, e_1, e_2, e_3, e_4, e_5, e_6, e_7, e_8, e_9, e_10, e_11, e_12, e_13, e_14, e_16]
 have hJ17 := g14
 clear hJm e_0 e_1 e_2 e_3 e_4 e_5 e_6 e_7 e_8 e_9 e_10 e_11 e_12 e_13 e_14 e_16 nge14 nB14 ksz14 g14
 have hJ17d := hJ17.sub (List.sublist_cons_self _ _)
 clear hJ17
 go_wp2
 rw [rounds_succ]
 go_wp2
 rw [rounds_succ]
 go_wp2
 refine wp_loop_rounds 4 ?_
 rw [rounds_succ]
 go_wp2
 obtain ⟨m15_17, hm⟩ : ∃ m, m = W17.heap.size := ⟨_, rfl⟩
 have hM : ∀ uu, Jz w m15_17 [(bk4, (cT (turnT (expT x))), 50), (bk3, (cT (expT (subV (ofV 0 0 0) x))), 50), (bk2, (cT (expT x)), 50), (bk1, (cV x), 25)] [(14, 3, 23)] [(15, 14, (cS (meetS (expT (subV (ofV 0 0 0) x)).b.x (turnT (expT x)).b.x)), 23)] (fun _ => false) uu W17.drew := fun uu => by rw [hm]; exact Jz.start hJ17d uu
 clear hm hJ17d
 refine wp_region_y 17 [some 48, some 49, some 50, some 51, some 52, some 53, some 54, some 55, some 56, some 57, some 58, some 47, some 59, some 60, some 13, none, some 14] (veL m15_17 [.eq (.int .i64 1), .eq (.int .i64 0), .eq (.pointer (some ⟨bk3, 9, none⟩)), .eq (.pointer (some ⟨bk3, 9, none⟩)), .eq (.agg (cS (expT (subV (ofV 0 0 0) x)).b.x)), .eq (.int .i64 1), .eq (.int .i64 0), .eq (.pointer (some ⟨bk4, 9, none⟩)), .eq (.pointer (some ⟨bk4, 9, none⟩)), .eq (.agg (cS (turnT (expT x)).b.x)), .eq (.tuple #[.agg (cS (meetS (expT (subV (ofV 0 0 0) x)).b.x (turnT (expT x)).b.x)), .bool true]), .eq (.tuple #[.agg (cS (meetS (expT (subV (ofV 0 0 0) x)).b.x (turnT (expT x)).b.x)), .bool true]), .eq (.agg (cS (meetS (expT (subV (ofV 0 0 0) x)).b.x (turnT (expT x)).b.x))), .eq (.bool true), .any, .any, .eq (.bool true)]) (Jz w m15_17 [(bk4, (cT (turnT (expT x))), 50), (bk3, (cT (expT (subV (ofV 0 0 0) x))), 50), (bk2, (cT (expT x)), 50), (bk1, (cV x), 25)] [(14, 3, 23)] [(15, 14, (cS (meetS (expT (subV (ofV 0 0 0) x)).b.x (turnT (expT x)).b.x)), 23)]) (by kernel_rfl) (by kernel_rfl) (by rfl) (by decide) (by rfl) hM ?_ ?_
 ·
  intro i hl hi LL uu ww aa hLi hJ hd hev hin
  clear hM
  obtain rfl | rfl | rfl | rfl | rfl | rfl | rfl | rfl | rfl | rfl | rfl | rfl | rfl | rfl | rfl | rfl | rfl : i = 0 ∨ i = 1 ∨ i = 2 ∨ i = 3 ∨ i = 4 ∨ i = 5 ∨ i = 6 ∨ i = 7 ∨ i = 8 ∨ i = 9 ∨ i = 10 ∨ i = 11 ∨ i = 12 ∨ i = 13 ∨ i = 14 ∨ i = 15 ∨ i = 16 := by omega
  ·
   exact .inr ⟨rfl, fun K' hK => wp_move (.tmp 11) rfl (eval_tmp ((hev 11 (by decide)).trans rfl)) (hK _ _ (hJ.grow hLi (by simp) (by simp) (Below.refl _ _)) rfl veL_same)⟩
  ·
   exact .inr ⟨rfl, fun K' hK => wp_move (.tmp 12) rfl (eval_tmp ((hev 12 (by decide)).trans rfl)) (hK _ _ (hJ.grow hLi (by simp) (by simp) (Below.refl _ _)) rfl veL_same)⟩
  ·
   exact .inr ⟨rfl, fun K' hK => wp_ixa 50 (.tmp 8) (.tmp 48) rfl (eval_tmp ((hev 8 (by decide)).trans rfl)) (eval_tmp ((hin 0 48 rfl).trans (congrArg some (show uu 0 = .int .i64 1 from (hd 0 (by decide) (by kernel_rfl)).2)))) (fun _ => by kernel_rfl) (hK _ _ (hJ.grow hLi (by simp) (by simp) (Below.refl _ _)) rfl veL_same)⟩
  ·
   exact .inr ⟨rfl, fun K' hK => wp_ixa 25 (.tmp 50) (.tmp 49) rfl (eval_tmp ((hin 2 50 rfl).trans (congrArg some (show uu 2 = .pointer (some ⟨bk3, 9, none⟩) from (hd 2 (by decide) (by kernel_rfl)).2)))) (eval_tmp ((hin 1 49 rfl).trans (congrArg some (show uu 1 = .int .i64 0 from (hd 1 (by decide) (by kernel_rfl)).2)))) (fun _ => by kernel_rfl) (hK _ _ (hJ.grow hLi (by simp) (by simp) (Below.refl _ _)) rfl veL_same)⟩
  ·
   exact .inr ⟨rfl, fun K' hK => wp_load 23 (.tmp 51) rfl bk3 9 3 (cT (expT (subV (ofV 0 0 0) x))) (cS (expT (subV (ofV 0 0 0) x)).b.x) 50 (hJ.em.es.at' _ (List.mem_of_getElem? (i := 1) rfl)) (eval_tmp ((hin 3 51 rfl).trans (congrArg some (show uu 3 = .pointer (some ⟨bk3, 9, none⟩) from (hd 3 (by decide) (by kernel_rfl)).2)))) ag23 sz23 (Nat.le_of_ble_eq_true (by kernel_rfl)) (by kernel_rfl) (hK _ _ (hJ.grow hLi (by simp) (by simp) (Below.refl _ _)) rfl veL_same)⟩
  ·
   exact .inr ⟨rfl, fun K' hK => wp_move (.tmp 11) rfl (eval_tmp ((hev 11 (by decide)).trans rfl)) (hK _ _ (hJ.grow hLi (by simp) (by simp) (Below.refl _ _)) rfl veL_same)⟩
  ·
   exact .inr ⟨rfl, fun K' hK => wp_move (.tmp 12) rfl (eval_tmp ((hev 12 (by decide)).trans rfl)) (hK _ _ (hJ.grow hLi (by simp) (by simp) (Below.refl _ _)) rfl veL_same)⟩
  ·
   exact .inr ⟨rfl, fun K' hK => wp_ixa 50 (.tmp 9) (.tmp 53) rfl (eval_tmp ((hev 9 (by decide)).trans rfl)) (eval_tmp ((hin 5 53 rfl).trans (congrArg some (show uu 5 = .int .i64 1 from (hd 5 (by decide) (by kernel_rfl)).2)))) (fun _ => by kernel_rfl) (hK _ _ (hJ.grow hLi (by simp) (by simp) (Below.refl _ _)) rfl veL_same)⟩
  ·
   exact .inr ⟨rfl, fun K' hK => wp_ixa 25 (.tmp 55) (.tmp 54) rfl (eval_tmp ((hin 7 55 rfl).trans (congrArg some (show uu 7 = .pointer (some ⟨bk4, 9, none⟩) from (hd 7 (by decide) (by kernel_rfl)).2)))) (eval_tmp ((hin 6 54 rfl).trans (congrArg some (show uu 6 = .int .i64 0 from (hd 6 (by decide) (by kernel_rfl)).2)))) (fun _ => by kernel_rfl) (hK _ _ (hJ.grow hLi (by simp) (by simp) (Below.refl _ _)) rfl veL_same)⟩
  ·
   exact .inr ⟨rfl, fun K' hK => wp_load 23 (.tmp 56) rfl bk4 9 3 (cT (turnT (expT x))) (cS (turnT (expT x)).b.x) 50 (hJ.em.es.at' _ (List.mem_of_getElem? (i := 0) rfl)) (eval_tmp ((hin 8 56 rfl).trans (congrArg some (show uu 8 = .pointer (some ⟨bk4, 9, none⟩) from (hd 8 (by decide) (by kernel_rfl)).2)))) ag23 sz23 (Nat.le_of_ble_eq_true (by kernel_rfl)) (by kernel_rfl) (hK _ _ (hJ.grow hLi (by simp) (by simp) (Below.refl _ _)) rfl veL_same)⟩
  ·
   exact .inr ⟨rfl, fun K' hK => wp_callv (.func 41) #[.tmp 52, .tmp 57] _ 41 #[] #[.agg (cS (expT (subV (ofV 0 0 0) x)).b.x), .agg (cS (turnT (expT x)).b.x)] #[.agg (cS (expT (subV (ofV 0 0 0) x)).b.x), .agg (cS (turnT (expT x)).b.x)] rfl rfl (map2 (eval_tmp ((hin 4 52 rfl).trans (congrArg some (show uu 4 = .agg (cS (expT (subV (ofV 0 0 0) x)).b.x) from (hd 4 (by decide) (by kernel_rfl)).2)))) (eval_tmp ((hin 9 57 rfl).trans (congrArg some (show uu 9 = .agg (cS (turnT (expT x)).b.x) from (hd 9 (by decide) (by kernel_rfl)).2))))) (by kernel_rfl) (fun _ _ => by kernel_rfl) (meet_yes (back_m x).2.1.1 ww) (fun _ hB => (hK _ _ (hJ.grow hLi (by simp) (by simp) hB) rfl (veL_flat rfl)))⟩
  ·
   exact .inr ⟨rfl, fun K' hK => wp_move (.tmp 58) rfl (eval_tmp ((hin 10 58 rfl).trans (congrArg some (show uu 10 = .tuple #[.agg (cS (meetS (expT (subV (ofV 0 0 0) x)).b.x (turnT (expT x)).b.x)), .bool true] from (hd 10 (by decide) (by kernel_rfl)).2)))) (hK _ _ (hJ.grow hLi (by simp) (by simp) (Below.refl _ _)) rfl veL_same)⟩
  ·
   exact .inr ⟨rfl, fun K' hK => wp_ext (.tmp 47) 0 rfl (eval_tmp ((hin 11 47 rfl).trans (congrArg some (show uu 11 = .tuple #[.agg (cS (meetS (expT (subV (ofV 0 0 0) x)).b.x (turnT (expT x)).b.x)), .bool true] from (hd 11 (by decide) (by kernel_rfl)).2)))) (fun _ => rfl) (hK _ _ (hJ.grow hLi (by simp) (by simp) (Below.refl _ _)) rfl veL_same)⟩
  ·
   exact .inr ⟨rfl, fun K' hK => wp_ext (.tmp 47) 1 rfl (eval_tmp ((hin 11 47 rfl).trans (congrArg some (show uu 11 = .tuple #[.agg (cS (meetS (expT (subV (ofV 0 0 0) x)).b.x (turnT (expT x)).b.x)), .bool true] from (hd 11 (by decide) (by kernel_rfl)).2)))) (fun _ => rfl) (hK _ _ (hJ.grow hLi (by simp) (by simp) (Below.refl _ _)) rfl veL_same)⟩
  ·
   exact .inr ⟨rfl, fun K' hK => wp_alloc 23 rfl (.agg (cS zS)) zv23 (hK _ _ (hJ.alloc hLi (n := 3) rfl (by simp) (by simp)) trivial (veL_flat rfl))⟩
  ·
   have hLa := (hd 14 (by decide) (by kernel_rfl)).1
   obtain ⟨kb, kC, ke, kge, ksz, kcl⟩ := hJ.bx (14, 3, 23) (by simp) hLa
   have x13 : aa.tmps[13]? = some (.pointer (some ⟨kb, 0, none⟩)) := (hin 14 13 rfl).trans (congrArg some ke)
   have x59 : aa.tmps[59]? = some (.agg (cS (meetS (expT (subV (ofV 0 0 0) x)).b.x (turnT (expT x)).b.x))) := ((hin 12 59 rfl).trans (congrArg some (show uu 12 = .agg (cS (meetS (expT (subV (ofV 0 0 0) x)).b.x (turnT (expT x)).b.x)) from (hd 12 (by decide) (by kernel_rfl)).2)))
   clear hd hev hin
   simp only [List.getElem_cons_succ, List.getElem_cons_zero]
   clear hl
   refine .inr ⟨rfl, fun K' hK => ?_⟩
   have HK := Lib.hid hK
   clear hK
   refine wp_store 23 (.tmp 13) (.tmp 59) rfl 0 kb 0 kC 23 3 (cS (meetS (expT (subV (ofV 0 0 0) x)).b.x (turnT (expT x)).b.x)).toList (hJ.em.join kge kcl) rfl (eval_tmp x13) (by rw [eval_tmp x59]; rfl) sz23 (by kernel_rfl) (by rw [ksz]; decide) (by kernel_rfl) (fun ww2 hE hk hz => ?_)
   rw [putC_full (show kC.size = (cS (meetS (expT (subV (ofV 0 0 0) x)).b.x (turnT (expT x)).b.x)).toList.length from ksz), Array.toArray_toList] at hE
   exact HK.out undef _ (hJ.store (a := 14) (n := 3) (T := 23) (Cn := (cS (meetS (expT (subV (ofV 0 0 0) x)).b.x (turnT (expT x)).b.x))) hLi (by simp) (by simp) (by simp) (by simp) (by simp) (by simp) hLa ke kge rfl hE hk hz) trivial (veL_flat rfl)
  ·
   exact .inr ⟨rfl, fun K' hK => wp_asgn (.tmp 60) rfl (eval_tmp ((hin 13 60 rfl).trans (congrArg some (show uu 13 = .bool true from (hd 13 (by decide) (by kernel_rfl)).2)))) (hK _ _ (hJ.grow hLi (by simp) (by simp) (Below.refl _ _)) rfl veL_same)⟩
 clear hM
 intro LL uu W18 hLL hJm hd
 have e_0 : uu 0 = .int .i64 1 := hd 0 (by decide)
 have e_1 : uu 1 = .int .i64 0 := hd 1 (by decide)
 have e_2 : uu 2 = .pointer (some ⟨bk3, 9, none⟩) := hd 2 (by decide)
 have e_3 : uu 3 = .pointer (some ⟨bk3, 9, none⟩) := hd 3 (by decide)
 have e_4 : uu 4 = .agg (cS (expT (subV (ofV 0 0 0) x)).b.x) := hd 4 (by decide)
 have e_5 : uu 5 = .int .i64 1 := hd 5 (by decide)
 have e_6 : uu 6 = .int .i64 0 := hd 6 (by decide)
 have e_7 : uu 7 = .pointer (some ⟨bk4, 9, none⟩) := hd 7 (by decide)
 have e_8 : uu 8 = .pointer (some ⟨bk4, 9, none⟩) := hd 8 (by decide)
 have e_9 : uu 9 = .agg (cS (turnT (expT x)).b.x) := hd 9 (by decide)
 have e_10 : uu 10 = .tuple #[.agg (cS (meetS (expT (subV (ofV 0 0 0) x)).b.x (turnT (expT x)).b.x)), .bool true] := hd 10 (by decide)
 have e_11 : uu 11 = .tuple #[.agg (cS (meetS (expT (subV (ofV 0 0 0) x)).b.x (turnT (expT x)).b.x)), .bool true] := hd 11 (by decide)
 have e_12 : uu 12 = .agg (cS (meetS (expT (subV (ofV 0 0 0) x)).b.x (turnT (expT x)).b.x)) := hd 12 (by decide)
 have e_13 : uu 13 = .bool true := hd 13 (by decide)
 obtain ⟨bk8, kC14, e_14, nge14, ksz14, nB14⟩ := hJm.bx (14, 3, 23) (by simp) (hLL 14 (by decide))
 have e_16 : uu 16 = .bool true := hd 16 (by decide)
 obtain ⟨_, kb15, ke15, kl15⟩ := hJm.st (15, 14, (cS (meetS (expT (subV (ofV 0 0 0) x)).b.x (turnT (expT x)).b.x)), 23) (by simp) (hLL 15 (by decide))
 have kq15 : kb15 = bk8 := by
  have hq := ke15.symm.trans e_14
  injection hq with hq
  injection hq with hq
  injection hq with hq
 subst kq15
 clear ke15
 have g14 := hJm.em.join nge14 kl15
 clear hd hLL
 simp only [layS, Act.put, List.setIfInBounds_toArray, List.set_cons_succ, List.set_cons_zero, Nat.zero_add, Nat.reduceAdd, List.drop_succ_cons, List.drop_zero, List.drop_nil, e_0, e_1, e_2, e_3, e_4, e_5, e_6, e_7, e_8, e_9, e_10, e_11, e_12, e_13, e_14, e_16]
 have hJ18 := g14
 clear hJm e_0 e_1 e_2 e_3 e_4 e_5 e_6 e_7 e_8 e_9 e_10 e_11 e_12 e_13 e_14 e_16 nge14 nB14 ksz14 g14
 have hJ18d := hJ18.sub (List.sublist_cons_self _ _)
 clear hJ18
 go_wp2
 rw [rounds_succ]
 go_wp2
 obtain ⟨m15_18, hm⟩ : ∃ m, m = W18.heap.size := ⟨_, rfl⟩
 have hM : ∀ uu, Jz w m15_18 [(bk4, (cT (turnT (expT x))), 50), (bk3, (cT (expT (subV (ofV 0 0 0) x))), 50), (bk2, (cT (expT x)), 50), (bk1, (cV x), 25)] [(14, 3, 23)] [(15, 14, (cS (meetS (expT (subV (ofV 0 0 0) x)).b.y (turnT (expT x)).b.y)), 23)] (fun _ => false) uu W18.drew := fun uu => by rw [hm]; exact Jz.start hJ18d uu
 clear hm hJ18d
 refine wp_region_y 17 [some 48, some 49, some 50, some 51, some 52, some 53, some 54, some 55, some 56, some 57, some 58, some 47, some 59, some 60, some 13, none, some 14] (veL m15_18 [.eq (.int .i64 1), .eq (.int .i64 1), .eq (.pointer (some ⟨bk3, 9, none⟩)), .eq (.pointer (some ⟨bk3, 12, none⟩)), .eq (.agg (cS (expT (subV (ofV 0 0 0) x)).b.y)), .eq (.int .i64 1), .eq (.int .i64 1), .eq (.pointer (some ⟨bk4, 9, none⟩)), .eq (.pointer (some ⟨bk4, 12, none⟩)), .eq (.agg (cS (turnT (expT x)).b.y)), .eq (.tuple #[.agg (cS (meetS (expT (subV (ofV 0 0 0) x)).b.y (turnT (expT x)).b.y)), .bool true]), .eq (.tuple #[.agg (cS (meetS (expT (subV (ofV 0 0 0) x)).b.y (turnT (expT x)).b.y)), .bool true]), .eq (.agg (cS (meetS (expT (subV (ofV 0 0 0) x)).b.y (turnT (expT x)).b.y))), .eq (.bool true), .any, .any, .eq (.bool true)]) (Jz w m15_18 [(bk4, (cT (turnT (expT x))), 50), (bk3, (cT (expT (subV (ofV 0 0 0) x))), 50), (bk2, (cT (expT x)), 50), (bk1, (cV x), 25)] [(14, 3, 23)] [(15, 14, (cS (meetS (expT (subV (ofV 0 0 0) x)).b.y (turnT (expT x)).b.y)), 23)]) (by kernel_rfl) (by kernel_rfl) (by rfl) (by decide) (by rfl) hM ?_ ?_
 ·
  intro i hl hi LL uu ww aa hLi hJ hd hev hin
  clear hM
  obtain rfl | rfl | rfl | rfl | rfl | rfl | rfl | rfl | rfl | rfl | rfl | rfl | rfl | rfl | rfl | rfl | rfl : i = 0 ∨ i = 1 ∨ i = 2 ∨ i = 3 ∨ i = 4 ∨ i = 5 ∨ i = 6 ∨ i = 7 ∨ i = 8 ∨ i = 9 ∨ i = 10 ∨ i = 11 ∨ i = 12 ∨ i = 13 ∨ i = 14 ∨ i = 15 ∨ i = 16 := by omega
  ·
   exact .inr ⟨rfl, fun K' hK => wp_move (.tmp 11) rfl (eval_tmp ((hev 11 (by decide)).trans rfl)) (hK _ _ (hJ.grow hLi (by simp) (by simp) (Below.refl _ _)) rfl veL_same)⟩
  ·
   exact .inr ⟨rfl, fun K' hK => wp_move (.tmp 12) rfl (eval_tmp ((hev 12 (by decide)).trans rfl)) (hK _ _ (hJ.grow hLi (by simp) (by simp) (Below.refl _ _)) rfl veL_same)⟩
  ·
   exact .inr ⟨rfl, fun K' hK => wp_ixa 50 (.tmp 8) (.tmp 48) rfl (eval_tmp ((hev 8 (by decide)).trans rfl)) (eval_tmp ((hin 0 48 rfl).trans (congrArg some (show uu 0 = .int .i64 1 from (hd 0 (by decide) (by kernel_rfl)).2)))) (fun _ => by kernel_rfl) (hK _ _ (hJ.grow hLi (by simp) (by simp) (Below.refl _ _)) rfl veL_same)⟩
  ·
   exact .inr ⟨rfl, fun K' hK => wp_ixa 25 (.tmp 50) (.tmp 49) rfl (eval_tmp ((hin 2 50 rfl).trans (congrArg some (show uu 2 = .pointer (some ⟨bk3, 9, none⟩) from (hd 2 (by decide) (by kernel_rfl)).2)))) (eval_tmp ((hin 1 49 rfl).trans (congrArg some (show uu 1 = .int .i64 1 from (hd 1 (by decide) (by kernel_rfl)).2)))) (fun _ => by kernel_rfl) (hK _ _ (hJ.grow hLi (by simp) (by simp) (Below.refl _ _)) rfl veL_same)⟩
  ·
   exact .inr ⟨rfl, fun K' hK => wp_load 23 (.tmp 51) rfl bk3 12 3 (cT (expT (subV (ofV 0 0 0) x))) (cS (expT (subV (ofV 0 0 0) x)).b.y) 50 (hJ.em.es.at' _ (List.mem_of_getElem? (i := 1) rfl)) (eval_tmp ((hin 3 51 rfl).trans (congrArg some (show uu 3 = .pointer (some ⟨bk3, 12, none⟩) from (hd 3 (by decide) (by kernel_rfl)).2)))) ag23 sz23 (Nat.le_of_ble_eq_true (by kernel_rfl)) (by kernel_rfl) (hK _ _ (hJ.grow hLi (by simp) (by simp) (Below.refl _ _)) rfl veL_same)⟩
  ·
   exact .inr ⟨rfl, fun K' hK => wp_move (.tmp 11) rfl (eval_tmp ((hev 11 (by decide)).trans rfl)) (hK _ _ (hJ.grow hLi (by simp) (by simp) (Below.refl _ _)) rfl veL_same)⟩
  ·
   exact .inr ⟨rfl, fun K' hK => wp_move (.tmp 12) rfl (eval_tmp ((hev 12 (by decide)).trans rfl)) (hK _ _ (hJ.grow hLi (by simp) (by simp) (Below.refl _ _)) rfl veL_same)⟩
  ·
   exact .inr ⟨rfl, fun K' hK => wp_ixa 50 (.tmp 9) (.tmp 53) rfl (eval_tmp ((hev 9 (by decide)).trans rfl)) (eval_tmp ((hin 5 53 rfl).trans (congrArg some (show uu 5 = .int .i64 1 from (hd 5 (by decide) (by kernel_rfl)).2)))) (fun _ => by kernel_rfl) (hK _ _ (hJ.grow hLi (by simp) (by simp) (Below.refl _ _)) rfl veL_same)⟩
  ·
   exact .inr ⟨rfl, fun K' hK => wp_ixa 25 (.tmp 55) (.tmp 54) rfl (eval_tmp ((hin 7 55 rfl).trans (congrArg some (show uu 7 = .pointer (some ⟨bk4, 9, none⟩) from (hd 7 (by decide) (by kernel_rfl)).2)))) (eval_tmp ((hin 6 54 rfl).trans (congrArg some (show uu 6 = .int .i64 1 from (hd 6 (by decide) (by kernel_rfl)).2)))) (fun _ => by kernel_rfl) (hK _ _ (hJ.grow hLi (by simp) (by simp) (Below.refl _ _)) rfl veL_same)⟩
  ·
   exact .inr ⟨rfl, fun K' hK => wp_load 23 (.tmp 56) rfl bk4 12 3 (cT (turnT (expT x))) (cS (turnT (expT x)).b.y) 50 (hJ.em.es.at' _ (List.mem_of_getElem? (i := 0) rfl)) (eval_tmp ((hin 8 56 rfl).trans (congrArg some (show uu 8 = .pointer (some ⟨bk4, 12, none⟩) from (hd 8 (by decide) (by kernel_rfl)).2)))) ag23 sz23 (Nat.le_of_ble_eq_true (by kernel_rfl)) (by kernel_rfl) (hK _ _ (hJ.grow hLi (by simp) (by simp) (Below.refl _ _)) rfl veL_same)⟩
  ·
   exact .inr ⟨rfl, fun K' hK => wp_callv (.func 41) #[.tmp 52, .tmp 57] _ 41 #[] #[.agg (cS (expT (subV (ofV 0 0 0) x)).b.y), .agg (cS (turnT (expT x)).b.y)] #[.agg (cS (expT (subV (ofV 0 0 0) x)).b.y), .agg (cS (turnT (expT x)).b.y)] rfl rfl (map2 (eval_tmp ((hin 4 52 rfl).trans (congrArg some (show uu 4 = .agg (cS (expT (subV (ofV 0 0 0) x)).b.y) from (hd 4 (by decide) (by kernel_rfl)).2)))) (eval_tmp ((hin 9 57 rfl).trans (congrArg some (show uu 9 = .agg (cS (turnT (expT x)).b.y) from (hd 9 (by decide) (by kernel_rfl)).2))))) (by kernel_rfl) (fun _ _ => by kernel_rfl) (meet_yes (back_m x).2.1.2.1 ww) (fun _ hB => (hK _ _ (hJ.grow hLi (by simp) (by simp) hB) rfl (veL_flat rfl)))⟩
  ·
   exact .inr ⟨rfl, fun K' hK => wp_move (.tmp 58) rfl (eval_tmp ((hin 10 58 rfl).trans (congrArg some (show uu 10 = .tuple #[.agg (cS (meetS (expT (subV (ofV 0 0 0) x)).b.y (turnT (expT x)).b.y)), .bool true] from (hd 10 (by decide) (by kernel_rfl)).2)))) (hK _ _ (hJ.grow hLi (by simp) (by simp) (Below.refl _ _)) rfl veL_same)⟩
  ·
   exact .inr ⟨rfl, fun K' hK => wp_ext (.tmp 47) 0 rfl (eval_tmp ((hin 11 47 rfl).trans (congrArg some (show uu 11 = .tuple #[.agg (cS (meetS (expT (subV (ofV 0 0 0) x)).b.y (turnT (expT x)).b.y)), .bool true] from (hd 11 (by decide) (by kernel_rfl)).2)))) (fun _ => rfl) (hK _ _ (hJ.grow hLi (by simp) (by simp) (Below.refl _ _)) rfl veL_same)⟩
  ·
   exact .inr ⟨rfl, fun K' hK => wp_ext (.tmp 47) 1 rfl (eval_tmp ((hin 11 47 rfl).trans (congrArg some (show uu 11 = .tuple #[.agg (cS (meetS (expT (subV (ofV 0 0 0) x)).b.y (turnT (expT x)).b.y)), .bool true] from (hd 11 (by decide) (by kernel_rfl)).2)))) (fun _ => rfl) (hK _ _ (hJ.grow hLi (by simp) (by simp) (Below.refl _ _)) rfl veL_same)⟩
  ·
   exact .inr ⟨rfl, fun K' hK => wp_alloc 23 rfl (.agg (cS zS)) zv23 (hK _ _ (hJ.alloc hLi (n := 3) rfl (by simp) (by simp)) trivial (veL_flat rfl))⟩
  ·
   have hLa := (hd 14 (by decide) (by kernel_rfl)).1
   obtain ⟨kb, kC, ke, kge, ksz, kcl⟩ := hJ.bx (14, 3, 23) (by simp) hLa
   have x13 : aa.tmps[13]? = some (.pointer (some ⟨kb, 0, none⟩)) := (hin 14 13 rfl).trans (congrArg some ke)
   have x59 : aa.tmps[59]? = some (.agg (cS (meetS (expT (subV (ofV 0 0 0) x)).b.y (turnT (expT x)).b.y))) := ((hin 12 59 rfl).trans (congrArg some (show uu 12 = .agg (cS (meetS (expT (subV (ofV 0 0 0) x)).b.y (turnT (expT x)).b.y)) from (hd 12 (by decide) (by kernel_rfl)).2)))
   clear hd hev hin
   simp only [List.getElem_cons_succ, List.getElem_cons_zero]
   clear hl
   refine .inr ⟨rfl, fun K' hK => ?_⟩
   have HK := Lib.hid hK
   clear hK
   refine wp_store 23 (.tmp 13) (.tmp 59) rfl 0 kb 0 kC 23 3 (cS (meetS (expT (subV (ofV 0 0 0) x)).b.y (turnT (expT x)).b.y)).toList (hJ.em.join kge kcl) rfl (eval_tmp x13) (by rw [eval_tmp x59]; rfl) sz23 (by kernel_rfl) (by rw [ksz]; decide) (by kernel_rfl) (fun ww2 hE hk hz => ?_)
   rw [putC_full (show kC.size = (cS (meetS (expT (subV (ofV 0 0 0) x)).b.y (turnT (expT x)).b.y)).toList.length from ksz), Array.toArray_toList] at hE
   exact HK.out undef _ (hJ.store (a := 14) (n := 3) (T := 23) (Cn := (cS (meetS (expT (subV (ofV 0 0 0) x)).b.y (turnT (expT x)).b.y))) hLi (by simp) (by simp) (by simp) (by simp) (by simp) (by simp) hLa ke kge rfl hE hk hz) trivial (veL_flat rfl)
  ·
   exact .inr ⟨rfl, fun K' hK => wp_asgn (.tmp 60) rfl (eval_tmp ((hin 13 60 rfl).trans (congrArg some (show uu 13 = .bool true from (hd 13 (by decide) (by kernel_rfl)).2)))) (hK _ _ (hJ.grow hLi (by simp) (by simp) (Below.refl _ _)) rfl veL_same)⟩
 clear hM
 intro LL uu W19 hLL hJm hd
 have e_0 : uu 0 = .int .i64 1 := hd 0 (by decide)
 have e_1 : uu 1 = .int .i64 1 := hd 1 (by decide)
 have e_2 : uu 2 = .pointer (some ⟨bk3, 9, none⟩) := hd 2 (by decide)
 have e_3 : uu 3 = .pointer (some ⟨bk3, 12, none⟩) := hd 3 (by decide)
 have e_4 : uu 4 = .agg (cS (expT (subV (ofV 0 0 0) x)).b.y) := hd 4 (by decide)
 have e_5 : uu 5 = .int .i64 1 := hd 5 (by decide)
 have e_6 : uu 6 = .int .i64 1 := hd 6 (by decide)
 have e_7 : uu 7 = .pointer (some ⟨bk4, 9, none⟩) := hd 7 (by decide)
 have e_8 : uu 8 = .pointer (some ⟨bk4, 12, none⟩) := hd 8 (by decide)
 have e_9 : uu 9 = .agg (cS (turnT (expT x)).b.y) := hd 9 (by decide)
 have e_10 : uu 10 = .tuple #[.agg (cS (meetS (expT (subV (ofV 0 0 0) x)).b.y (turnT (expT x)).b.y)), .bool true] := hd 10 (by decide)
 have e_11 : uu 11 = .tuple #[.agg (cS (meetS (expT (subV (ofV 0 0 0) x)).b.y (turnT (expT x)).b.y)), .bool true] := hd 11 (by decide)
 have e_12 : uu 12 = .agg (cS (meetS (expT (subV (ofV 0 0 0) x)).b.y (turnT (expT x)).b.y)) := hd 12 (by decide)
 have e_13 : uu 13 = .bool true := hd 13 (by decide)
 obtain ⟨bk9, kC14, e_14, nge14, ksz14, nB14⟩ := hJm.bx (14, 3, 23) (by simp) (hLL 14 (by decide))
 have e_16 : uu 16 = .bool true := hd 16 (by decide)
 obtain ⟨_, kb15, ke15, kl15⟩ := hJm.st (15, 14, (cS (meetS (expT (subV (ofV 0 0 0) x)).b.y (turnT (expT x)).b.y)), 23) (by simp) (hLL 15 (by decide))
 have kq15 : kb15 = bk9 := by
  have hq := ke15.symm.trans e_14
  injection hq with hq
  injection hq with hq
  injection hq with hq
 subst kq15
 clear ke15
 have g14 := hJm.em.join nge14 kl15
 clear hd hLL
 simp only [layS, Act.put, List.setIfInBounds_toArray, List.set_cons_succ, List.set_cons_zero, Nat.zero_add, Nat.reduceAdd, List.drop_succ_cons, List.drop_zero, List.drop_nil, e_0, e_1, e_2, e_3, e_4, e_5, e_6, e_7, e_8, e_9, e_10, e_11, e_12, e_13, e_14, e_16]
 have hJ19 := g14
 clear hJm e_0 e_1 e_2 e_3 e_4 e_5 e_6 e_7 e_8 e_9 e_10 e_11 e_12 e_13 e_14 e_16 nge14 nB14 ksz14 g14
 have hJ19d := hJ19.sub (List.sublist_cons_self _ _)
 clear hJ19
 go_wp2
 rw [rounds_succ]
 go_wp2
 obtain ⟨m15_19, hm⟩ : ∃ m, m = W19.heap.size := ⟨_, rfl⟩
 have hM : ∀ uu, Jz w m15_19 [(bk4, (cT (turnT (expT x))), 50), (bk3, (cT (expT (subV (ofV 0 0 0) x))), 50), (bk2, (cT (expT x)), 50), (bk1, (cV x), 25)] [(14, 3, 23)] [(15, 14, (cS (meetS (expT (subV (ofV 0 0 0) x)).b.z (turnT (expT x)).b.z)), 23)] (fun _ => false) uu W19.drew := fun uu => by rw [hm]; exact Jz.start hJ19d uu
 clear hm hJ19d
 refine wp_region_y 17 [some 48, some 49, some 50, some 51, some 52, some 53, some 54, some 55, some 56, some 57, some 58, some 47, some 59, some 60, some 13, none, some 14] (veL m15_19 [.eq (.int .i64 1), .eq (.int .i64 2), .eq (.pointer (some ⟨bk3, 9, none⟩)), .eq (.pointer (some ⟨bk3, 15, none⟩)), .eq (.agg (cS (expT (subV (ofV 0 0 0) x)).b.z)), .eq (.int .i64 1), .eq (.int .i64 2), .eq (.pointer (some ⟨bk4, 9, none⟩)), .eq (.pointer (some ⟨bk4, 15, none⟩)), .eq (.agg (cS (turnT (expT x)).b.z)), .eq (.tuple #[.agg (cS (meetS (expT (subV (ofV 0 0 0) x)).b.z (turnT (expT x)).b.z)), .bool true]), .eq (.tuple #[.agg (cS (meetS (expT (subV (ofV 0 0 0) x)).b.z (turnT (expT x)).b.z)), .bool true]), .eq (.agg (cS (meetS (expT (subV (ofV 0 0 0) x)).b.z (turnT (expT x)).b.z))), .eq (.bool true), .any, .any, .eq (.bool true)]) (Jz w m15_19 [(bk4, (cT (turnT (expT x))), 50), (bk3, (cT (expT (subV (ofV 0 0 0) x))), 50), (bk2, (cT (expT x)), 50), (bk1, (cV x), 25)] [(14, 3, 23)] [(15, 14, (cS (meetS (expT (subV (ofV 0 0 0) x)).b.z (turnT (expT x)).b.z)), 23)]) (by kernel_rfl) (by kernel_rfl) (by rfl) (by decide) (by rfl) hM ?_ ?_
 ·
  intro i hl hi LL uu ww aa hLi hJ hd hev hin
  clear hM
  obtain rfl | rfl | rfl | rfl | rfl | rfl | rfl | rfl | rfl | rfl | rfl | rfl | rfl | rfl | rfl | rfl | rfl : i = 0 ∨ i = 1 ∨ i = 2 ∨ i = 3 ∨ i = 4 ∨ i = 5 ∨ i = 6 ∨ i = 7 ∨ i = 8 ∨ i = 9 ∨ i = 10 ∨ i = 11 ∨ i = 12 ∨ i = 13 ∨ i = 14 ∨ i = 15 ∨ i = 16 := by omega
  ·
   exact .inr ⟨rfl, fun K' hK => wp_move (.tmp 11) rfl (eval_tmp ((hev 11 (by decide)).trans rfl)) (hK _ _ (hJ.grow hLi (by simp) (by simp) (Below.refl _ _)) rfl veL_same)⟩
  ·
   exact .inr ⟨rfl, fun K' hK => wp_move (.tmp 12) rfl (eval_tmp ((hev 12 (by decide)).trans rfl)) (hK _ _ (hJ.grow hLi (by simp) (by simp) (Below.refl _ _)) rfl veL_same)⟩
  ·
   exact .inr ⟨rfl, fun K' hK => wp_ixa 50 (.tmp 8) (.tmp 48) rfl (eval_tmp ((hev 8 (by decide)).trans rfl)) (eval_tmp ((hin 0 48 rfl).trans (congrArg some (show uu 0 = .int .i64 1 from (hd 0 (by decide) (by kernel_rfl)).2)))) (fun _ => by kernel_rfl) (hK _ _ (hJ.grow hLi (by simp) (by simp) (Below.refl _ _)) rfl veL_same)⟩
  ·
   exact .inr ⟨rfl, fun K' hK => wp_ixa 25 (.tmp 50) (.tmp 49) rfl (eval_tmp ((hin 2 50 rfl).trans (congrArg some (show uu 2 = .pointer (some ⟨bk3, 9, none⟩) from (hd 2 (by decide) (by kernel_rfl)).2)))) (eval_tmp ((hin 1 49 rfl).trans (congrArg some (show uu 1 = .int .i64 2 from (hd 1 (by decide) (by kernel_rfl)).2)))) (fun _ => by kernel_rfl) (hK _ _ (hJ.grow hLi (by simp) (by simp) (Below.refl _ _)) rfl veL_same)⟩
  ·
   exact .inr ⟨rfl, fun K' hK => wp_load 23 (.tmp 51) rfl bk3 15 3 (cT (expT (subV (ofV 0 0 0) x))) (cS (expT (subV (ofV 0 0 0) x)).b.z) 50 (hJ.em.es.at' _ (List.mem_of_getElem? (i := 1) rfl)) (eval_tmp ((hin 3 51 rfl).trans (congrArg some (show uu 3 = .pointer (some ⟨bk3, 15, none⟩) from (hd 3 (by decide) (by kernel_rfl)).2)))) ag23 sz23 (Nat.le_of_ble_eq_true (by kernel_rfl)) (by kernel_rfl) (hK _ _ (hJ.grow hLi (by simp) (by simp) (Below.refl _ _)) rfl veL_same)⟩
  ·
   exact .inr ⟨rfl, fun K' hK => wp_move (.tmp 11) rfl (eval_tmp ((hev 11 (by decide)).trans rfl)) (hK _ _ (hJ.grow hLi (by simp) (by simp) (Below.refl _ _)) rfl veL_same)⟩
  ·
   exact .inr ⟨rfl, fun K' hK => wp_move (.tmp 12) rfl (eval_tmp ((hev 12 (by decide)).trans rfl)) (hK _ _ (hJ.grow hLi (by simp) (by simp) (Below.refl _ _)) rfl veL_same)⟩
  ·
   exact .inr ⟨rfl, fun K' hK => wp_ixa 50 (.tmp 9) (.tmp 53) rfl (eval_tmp ((hev 9 (by decide)).trans rfl)) (eval_tmp ((hin 5 53 rfl).trans (congrArg some (show uu 5 = .int .i64 1 from (hd 5 (by decide) (by kernel_rfl)).2)))) (fun _ => by kernel_rfl) (hK _ _ (hJ.grow hLi (by simp) (by simp) (Below.refl _ _)) rfl veL_same)⟩
  ·
   exact .inr ⟨rfl, fun K' hK => wp_ixa 25 (.tmp 55) (.tmp 54) rfl (eval_tmp ((hin 7 55 rfl).trans (congrArg some (show uu 7 = .pointer (some ⟨bk4, 9, none⟩) from (hd 7 (by decide) (by kernel_rfl)).2)))) (eval_tmp ((hin 6 54 rfl).trans (congrArg some (show uu 6 = .int .i64 2 from (hd 6 (by decide) (by kernel_rfl)).2)))) (fun _ => by kernel_rfl) (hK _ _ (hJ.grow hLi (by simp) (by simp) (Below.refl _ _)) rfl veL_same)⟩
  ·
   exact .inr ⟨rfl, fun K' hK => wp_load 23 (.tmp 56) rfl bk4 15 3 (cT (turnT (expT x))) (cS (turnT (expT x)).b.z) 50 (hJ.em.es.at' _ (List.mem_of_getElem? (i := 0) rfl)) (eval_tmp ((hin 8 56 rfl).trans (congrArg some (show uu 8 = .pointer (some ⟨bk4, 15, none⟩) from (hd 8 (by decide) (by kernel_rfl)).2)))) ag23 sz23 (Nat.le_of_ble_eq_true (by kernel_rfl)) (by kernel_rfl) (hK _ _ (hJ.grow hLi (by simp) (by simp) (Below.refl _ _)) rfl veL_same)⟩
  ·
   exact .inr ⟨rfl, fun K' hK => wp_callv (.func 41) #[.tmp 52, .tmp 57] _ 41 #[] #[.agg (cS (expT (subV (ofV 0 0 0) x)).b.z), .agg (cS (turnT (expT x)).b.z)] #[.agg (cS (expT (subV (ofV 0 0 0) x)).b.z), .agg (cS (turnT (expT x)).b.z)] rfl rfl (map2 (eval_tmp ((hin 4 52 rfl).trans (congrArg some (show uu 4 = .agg (cS (expT (subV (ofV 0 0 0) x)).b.z) from (hd 4 (by decide) (by kernel_rfl)).2)))) (eval_tmp ((hin 9 57 rfl).trans (congrArg some (show uu 9 = .agg (cS (turnT (expT x)).b.z) from (hd 9 (by decide) (by kernel_rfl)).2))))) (by kernel_rfl) (fun _ _ => by kernel_rfl) (meet_yes (back_m x).2.1.2.2 ww) (fun _ hB => (hK _ _ (hJ.grow hLi (by simp) (by simp) hB) rfl (veL_flat rfl)))⟩
  ·
   exact .inr ⟨rfl, fun K' hK => wp_move (.tmp 58) rfl (eval_tmp ((hin 10 58 rfl).trans (congrArg some (show uu 10 = .tuple #[.agg (cS (meetS (expT (subV (ofV 0 0 0) x)).b.z (turnT (expT x)).b.z)), .bool true] from (hd 10 (by decide) (by kernel_rfl)).2)))) (hK _ _ (hJ.grow hLi (by simp) (by simp) (Below.refl _ _)) rfl veL_same)⟩
  ·
   exact .inr ⟨rfl, fun K' hK => wp_ext (.tmp 47) 0 rfl (eval_tmp ((hin 11 47 rfl).trans (congrArg some (show uu 11 = .tuple #[.agg (cS (meetS (expT (subV (ofV 0 0 0) x)).b.z (turnT (expT x)).b.z)), .bool true] from (hd 11 (by decide) (by kernel_rfl)).2)))) (fun _ => rfl) (hK _ _ (hJ.grow hLi (by simp) (by simp) (Below.refl _ _)) rfl veL_same)⟩
  ·
   exact .inr ⟨rfl, fun K' hK => wp_ext (.tmp 47) 1 rfl (eval_tmp ((hin 11 47 rfl).trans (congrArg some (show uu 11 = .tuple #[.agg (cS (meetS (expT (subV (ofV 0 0 0) x)).b.z (turnT (expT x)).b.z)), .bool true] from (hd 11 (by decide) (by kernel_rfl)).2)))) (fun _ => rfl) (hK _ _ (hJ.grow hLi (by simp) (by simp) (Below.refl _ _)) rfl veL_same)⟩
  ·
   exact .inr ⟨rfl, fun K' hK => wp_alloc 23 rfl (.agg (cS zS)) zv23 (hK _ _ (hJ.alloc hLi (n := 3) rfl (by simp) (by simp)) trivial (veL_flat rfl))⟩
  ·
   have hLa := (hd 14 (by decide) (by kernel_rfl)).1
   obtain ⟨kb, kC, ke, kge, ksz, kcl⟩ := hJ.bx (14, 3, 23) (by simp) hLa
   have x13 : aa.tmps[13]? = some (.pointer (some ⟨kb, 0, none⟩)) := (hin 14 13 rfl).trans (congrArg some ke)
   have x59 : aa.tmps[59]? = some (.agg (cS (meetS (expT (subV (ofV 0 0 0) x)).b.z (turnT (expT x)).b.z))) := ((hin 12 59 rfl).trans (congrArg some (show uu 12 = .agg (cS (meetS (expT (subV (ofV 0 0 0) x)).b.z (turnT (expT x)).b.z)) from (hd 12 (by decide) (by kernel_rfl)).2)))
   clear hd hev hin
   simp only [List.getElem_cons_succ, List.getElem_cons_zero]
   clear hl
   refine .inr ⟨rfl, fun K' hK => ?_⟩
   have HK := Lib.hid hK
   clear hK
   refine wp_store 23 (.tmp 13) (.tmp 59) rfl 0 kb 0 kC 23 3 (cS (meetS (expT (subV (ofV 0 0 0) x)).b.z (turnT (expT x)).b.z)).toList (hJ.em.join kge kcl) rfl (eval_tmp x13) (by rw [eval_tmp x59]; rfl) sz23 (by kernel_rfl) (by rw [ksz]; decide) (by kernel_rfl) (fun ww2 hE hk hz => ?_)
   rw [putC_full (show kC.size = (cS (meetS (expT (subV (ofV 0 0 0) x)).b.z (turnT (expT x)).b.z)).toList.length from ksz), Array.toArray_toList] at hE
   exact HK.out undef _ (hJ.store (a := 14) (n := 3) (T := 23) (Cn := (cS (meetS (expT (subV (ofV 0 0 0) x)).b.z (turnT (expT x)).b.z))) hLi (by simp) (by simp) (by simp) (by simp) (by simp) (by simp) hLa ke kge rfl hE hk hz) trivial (veL_flat rfl)
  ·
   exact .inr ⟨rfl, fun K' hK => wp_asgn (.tmp 60) rfl (eval_tmp ((hin 13 60 rfl).trans (congrArg some (show uu 13 = .bool true from (hd 13 (by decide) (by kernel_rfl)).2)))) (hK _ _ (hJ.grow hLi (by simp) (by simp) (Below.refl _ _)) rfl veL_same)⟩
 clear hM
 intro LL uu W20 hLL hJm hd
 have e_0 : uu 0 = .int .i64 1 := hd 0 (by decide)
 have e_1 : uu 1 = .int .i64 2 := hd 1 (by decide)
 have e_2 : uu 2 = .pointer (some ⟨bk3, 9, none⟩) := hd 2 (by decide)
 have e_3 : uu 3 = .pointer (some ⟨bk3, 15, none⟩) := hd 3 (by decide)
 have e_4 : uu 4 = .agg (cS (expT (subV (ofV 0 0 0) x)).b.z) := hd 4 (by decide)
 have e_5 : uu 5 = .int .i64 1 := hd 5 (by decide)
 have e_6 : uu 6 = .int .i64 2 := hd 6 (by decide)
 have e_7 : uu 7 = .pointer (some ⟨bk4, 9, none⟩) := hd 7 (by decide)
 have e_8 : uu 8 = .pointer (some ⟨bk4, 15, none⟩) := hd 8 (by decide)
 have e_9 : uu 9 = .agg (cS (turnT (expT x)).b.z) := hd 9 (by decide)
 have e_10 : uu 10 = .tuple #[.agg (cS (meetS (expT (subV (ofV 0 0 0) x)).b.z (turnT (expT x)).b.z)), .bool true] := hd 10 (by decide)
 have e_11 : uu 11 = .tuple #[.agg (cS (meetS (expT (subV (ofV 0 0 0) x)).b.z (turnT (expT x)).b.z)), .bool true] := hd 11 (by decide)
 have e_12 : uu 12 = .agg (cS (meetS (expT (subV (ofV 0 0 0) x)).b.z (turnT (expT x)).b.z)) := hd 12 (by decide)
 have e_13 : uu 13 = .bool true := hd 13 (by decide)
 obtain ⟨bk10, kC14, e_14, nge14, ksz14, nB14⟩ := hJm.bx (14, 3, 23) (by simp) (hLL 14 (by decide))
 have e_16 : uu 16 = .bool true := hd 16 (by decide)
 obtain ⟨_, kb15, ke15, kl15⟩ := hJm.st (15, 14, (cS (meetS (expT (subV (ofV 0 0 0) x)).b.z (turnT (expT x)).b.z)), 23) (by simp) (hLL 15 (by decide))
 have kq15 : kb15 = bk10 := by
  have hq := ke15.symm.trans e_14
  injection hq with hq
  injection hq with hq
  injection hq with hq
 subst kq15
 clear ke15
 have g14 := hJm.em.join nge14 kl15
 clear hd hLL
 simp only [layS, Act.put, List.setIfInBounds_toArray, List.set_cons_succ, List.set_cons_zero, Nat.zero_add, Nat.reduceAdd, List.drop_succ_cons, List.drop_zero, List.drop_nil, e_0, e_1, e_2, e_3, e_4, e_5, e_6, e_7, e_8, e_9, e_10, e_11, e_12, e_13, e_14, e_16]
 have hJ20 := g14
 clear hJm e_0 e_1 e_2 e_3 e_4 e_5 e_6 e_7 e_8 e_9 e_10 e_11 e_12 e_13 e_14 e_16 nge14 nB14 ksz14 g14
 have hJ20d := hJ20.sub (List.sublist_cons_self _ _)
 clear hJ20
 go_wp2
 rw [rounds_succ]
 go_wp2
 rw [rounds_succ]
 go_wp2
 refine wp_loop_rounds 4 ?_
 rw [rounds_succ]
 go_wp2
 obtain ⟨m15_20, hm⟩ : ∃ m, m = W20.heap.size := ⟨_, rfl⟩
 have hM : ∀ uu, Jz w m15_20 [(bk4, (cT (turnT (expT x))), 50), (bk3, (cT (expT (subV (ofV 0 0 0) x))), 50), (bk2, (cT (expT x)), 50), (bk1, (cV x), 25)] [(14, 3, 23)] [(15, 14, (cS (meetS (expT (subV (ofV 0 0 0) x)).c.x (turnT (expT x)).c.x)), 23)] (fun _ => false) uu W20.drew := fun uu => by rw [hm]; exact Jz.start hJ20d uu
 clear hm hJ20d
 refine wp_region_y 17 [some 48, some 49, some 50, some 51, some 52, some 53, some 54, some 55, some 56, some 57, some 58, some 47, some 59, some 60, some 13, none, some 14] (veL m15_20 [.eq (.int .i64 2), .eq (.int .i64 0), .eq (.pointer (some ⟨bk3, 18, none⟩)), .eq (.pointer (some ⟨bk3, 18, none⟩)), .eq (.agg (cS (expT (subV (ofV 0 0 0) x)).c.x)), .eq (.int .i64 2), .eq (.int .i64 0), .eq (.pointer (some ⟨bk4, 18, none⟩)), .eq (.pointer (some ⟨bk4, 18, none⟩)), .eq (.agg (cS (turnT (expT x)).c.x)), .eq (.tuple #[.agg (cS (meetS (expT (subV (ofV 0 0 0) x)).c.x (turnT (expT x)).c.x)), .bool true]), .eq (.tuple #[.agg (cS (meetS (expT (subV (ofV 0 0 0) x)).c.x (turnT (expT x)).c.x)), .bool true]), .eq (.agg (cS (meetS (expT (subV (ofV 0 0 0) x)).c.x (turnT (expT x)).c.x))), .eq (.bool true), .any, .any, .eq (.bool true)]) (Jz w m15_20 [(bk4, (cT (turnT (expT x))), 50), (bk3, (cT (expT (subV (ofV 0 0 0) x))), 50), (bk2, (cT (expT x)), 50), (bk1, (cV x), 25)] [(14, 3, 23)] [(15, 14, (cS (meetS (expT (subV (ofV 0 0 0) x)).c.x (turnT (expT x)).c.x)), 23)]) (by kernel_rfl) (by kernel_rfl) (by rfl) (by decide) (by rfl) hM ?_ ?_
 ·
  intro i hl hi LL uu ww aa hLi hJ hd hev hin
  clear hM
  obtain rfl | rfl | rfl | rfl | rfl | rfl | rfl | rfl | rfl | rfl | rfl | rfl | rfl | rfl | rfl | rfl | rfl : i = 0 ∨ i = 1 ∨ i = 2 ∨ i = 3 ∨ i = 4 ∨ i = 5 ∨ i = 6 ∨ i = 7 ∨ i = 8 ∨ i = 9 ∨ i = 10 ∨ i = 11 ∨ i = 12 ∨ i = 13 ∨ i = 14 ∨ i = 15 ∨ i = 16 := by omega
  ·
   exact .inr ⟨rfl, fun K' hK => wp_move (.tmp 11) rfl (eval_tmp ((hev 11 (by decide)).trans rfl)) (hK _ _ (hJ.grow hLi (by simp) (by simp) (Below.refl _ _)) rfl veL_same)⟩
  ·
   exact .inr ⟨rfl, fun K' hK => wp_move (.tmp 12) rfl (eval_tmp ((hev 12 (by decide)).trans rfl)) (hK _ _ (hJ.grow hLi (by simp) (by simp) (Below.refl _ _)) rfl veL_same)⟩
  ·
   exact .inr ⟨rfl, fun K' hK => wp_ixa 50 (.tmp 8) (.tmp 48) rfl (eval_tmp ((hev 8 (by decide)).trans rfl)) (eval_tmp ((hin 0 48 rfl).trans (congrArg some (show uu 0 = .int .i64 2 from (hd 0 (by decide) (by kernel_rfl)).2)))) (fun _ => by kernel_rfl) (hK _ _ (hJ.grow hLi (by simp) (by simp) (Below.refl _ _)) rfl veL_same)⟩
  ·
   exact .inr ⟨rfl, fun K' hK => wp_ixa 25 (.tmp 50) (.tmp 49) rfl (eval_tmp ((hin 2 50 rfl).trans (congrArg some (show uu 2 = .pointer (some ⟨bk3, 18, none⟩) from (hd 2 (by decide) (by kernel_rfl)).2)))) (eval_tmp ((hin 1 49 rfl).trans (congrArg some (show uu 1 = .int .i64 0 from (hd 1 (by decide) (by kernel_rfl)).2)))) (fun _ => by kernel_rfl) (hK _ _ (hJ.grow hLi (by simp) (by simp) (Below.refl _ _)) rfl veL_same)⟩
  ·
   exact .inr ⟨rfl, fun K' hK => wp_load 23 (.tmp 51) rfl bk3 18 3 (cT (expT (subV (ofV 0 0 0) x))) (cS (expT (subV (ofV 0 0 0) x)).c.x) 50 (hJ.em.es.at' _ (List.mem_of_getElem? (i := 1) rfl)) (eval_tmp ((hin 3 51 rfl).trans (congrArg some (show uu 3 = .pointer (some ⟨bk3, 18, none⟩) from (hd 3 (by decide) (by kernel_rfl)).2)))) ag23 sz23 (Nat.le_of_ble_eq_true (by kernel_rfl)) (by kernel_rfl) (hK _ _ (hJ.grow hLi (by simp) (by simp) (Below.refl _ _)) rfl veL_same)⟩
  ·
   exact .inr ⟨rfl, fun K' hK => wp_move (.tmp 11) rfl (eval_tmp ((hev 11 (by decide)).trans rfl)) (hK _ _ (hJ.grow hLi (by simp) (by simp) (Below.refl _ _)) rfl veL_same)⟩
  ·
   exact .inr ⟨rfl, fun K' hK => wp_move (.tmp 12) rfl (eval_tmp ((hev 12 (by decide)).trans rfl)) (hK _ _ (hJ.grow hLi (by simp) (by simp) (Below.refl _ _)) rfl veL_same)⟩
  ·
   exact .inr ⟨rfl, fun K' hK => wp_ixa 50 (.tmp 9) (.tmp 53) rfl (eval_tmp ((hev 9 (by decide)).trans rfl)) (eval_tmp ((hin 5 53 rfl).trans (congrArg some (show uu 5 = .int .i64 2 from (hd 5 (by decide) (by kernel_rfl)).2)))) (fun _ => by kernel_rfl) (hK _ _ (hJ.grow hLi (by simp) (by simp) (Below.refl _ _)) rfl veL_same)⟩
  ·
   exact .inr ⟨rfl, fun K' hK => wp_ixa 25 (.tmp 55) (.tmp 54) rfl (eval_tmp ((hin 7 55 rfl).trans (congrArg some (show uu 7 = .pointer (some ⟨bk4, 18, none⟩) from (hd 7 (by decide) (by kernel_rfl)).2)))) (eval_tmp ((hin 6 54 rfl).trans (congrArg some (show uu 6 = .int .i64 0 from (hd 6 (by decide) (by kernel_rfl)).2)))) (fun _ => by kernel_rfl) (hK _ _ (hJ.grow hLi (by simp) (by simp) (Below.refl _ _)) rfl veL_same)⟩
  ·
   exact .inr ⟨rfl, fun K' hK => wp_load 23 (.tmp 56) rfl bk4 18 3 (cT (turnT (expT x))) (cS (turnT (expT x)).c.x) 50 (hJ.em.es.at' _ (List.mem_of_getElem? (i := 0) rfl)) (eval_tmp ((hin 8 56 rfl).trans (congrArg some (show uu 8 = .pointer (some ⟨bk4, 18, none⟩) from (hd 8 (by decide) (by kernel_rfl)).2)))) ag23 sz23 (Nat.le_of_ble_eq_true (by kernel_rfl)) (by kernel_rfl) (hK _ _ (hJ.grow hLi (by simp) (by simp) (Below.refl _ _)) rfl veL_same)⟩
  ·
   exact .inr ⟨rfl, fun K' hK => wp_callv (.func 41) #[.tmp 52, .tmp 57] _ 41 #[] #[.agg (cS (expT (subV (ofV 0 0 0) x)).c.x), .agg (cS (turnT (expT x)).c.x)] #[.agg (cS (expT (subV (ofV 0 0 0) x)).c.x), .agg (cS (turnT (expT x)).c.x)] rfl rfl (map2 (eval_tmp ((hin 4 52 rfl).trans (congrArg some (show uu 4 = .agg (cS (expT (subV (ofV 0 0 0) x)).c.x) from (hd 4 (by decide) (by kernel_rfl)).2)))) (eval_tmp ((hin 9 57 rfl).trans (congrArg some (show uu 9 = .agg (cS (turnT (expT x)).c.x) from (hd 9 (by decide) (by kernel_rfl)).2))))) (by kernel_rfl) (fun _ _ => by kernel_rfl) (meet_yes (back_m x).2.2.1 ww) (fun _ hB => (hK _ _ (hJ.grow hLi (by simp) (by simp) hB) rfl (veL_flat rfl)))⟩
  ·
   exact .inr ⟨rfl, fun K' hK => wp_move (.tmp 58) rfl (eval_tmp ((hin 10 58 rfl).trans (congrArg some (show uu 10 = .tuple #[.agg (cS (meetS (expT (subV (ofV 0 0 0) x)).c.x (turnT (expT x)).c.x)), .bool true] from (hd 10 (by decide) (by kernel_rfl)).2)))) (hK _ _ (hJ.grow hLi (by simp) (by simp) (Below.refl _ _)) rfl veL_same)⟩
  ·
   exact .inr ⟨rfl, fun K' hK => wp_ext (.tmp 47) 0 rfl (eval_tmp ((hin 11 47 rfl).trans (congrArg some (show uu 11 = .tuple #[.agg (cS (meetS (expT (subV (ofV 0 0 0) x)).c.x (turnT (expT x)).c.x)), .bool true] from (hd 11 (by decide) (by kernel_rfl)).2)))) (fun _ => rfl) (hK _ _ (hJ.grow hLi (by simp) (by simp) (Below.refl _ _)) rfl veL_same)⟩
  ·
   exact .inr ⟨rfl, fun K' hK => wp_ext (.tmp 47) 1 rfl (eval_tmp ((hin 11 47 rfl).trans (congrArg some (show uu 11 = .tuple #[.agg (cS (meetS (expT (subV (ofV 0 0 0) x)).c.x (turnT (expT x)).c.x)), .bool true] from (hd 11 (by decide) (by kernel_rfl)).2)))) (fun _ => rfl) (hK _ _ (hJ.grow hLi (by simp) (by simp) (Below.refl _ _)) rfl veL_same)⟩
  ·
   exact .inr ⟨rfl, fun K' hK => wp_alloc 23 rfl (.agg (cS zS)) zv23 (hK _ _ (hJ.alloc hLi (n := 3) rfl (by simp) (by simp)) trivial (veL_flat rfl))⟩
  ·
   have hLa := (hd 14 (by decide) (by kernel_rfl)).1
   obtain ⟨kb, kC, ke, kge, ksz, kcl⟩ := hJ.bx (14, 3, 23) (by simp) hLa
   have x13 : aa.tmps[13]? = some (.pointer (some ⟨kb, 0, none⟩)) := (hin 14 13 rfl).trans (congrArg some ke)
   have x59 : aa.tmps[59]? = some (.agg (cS (meetS (expT (subV (ofV 0 0 0) x)).c.x (turnT (expT x)).c.x))) := ((hin 12 59 rfl).trans (congrArg some (show uu 12 = .agg (cS (meetS (expT (subV (ofV 0 0 0) x)).c.x (turnT (expT x)).c.x)) from (hd 12 (by decide) (by kernel_rfl)).2)))
   clear hd hev hin
   simp only [List.getElem_cons_succ, List.getElem_cons_zero]
   clear hl
   refine .inr ⟨rfl, fun K' hK => ?_⟩
   have HK := Lib.hid hK
   clear hK
   refine wp_store 23 (.tmp 13) (.tmp 59) rfl 0 kb 0 kC 23 3 (cS (meetS (expT (subV (ofV 0 0 0) x)).c.x (turnT (expT x)).c.x)).toList (hJ.em.join kge kcl) rfl (eval_tmp x13) (by rw [eval_tmp x59]; rfl) sz23 (by kernel_rfl) (by rw [ksz]; decide) (by kernel_rfl) (fun ww2 hE hk hz => ?_)
   rw [putC_full (show kC.size = (cS (meetS (expT (subV (ofV 0 0 0) x)).c.x (turnT (expT x)).c.x)).toList.length from ksz), Array.toArray_toList] at hE
   exact HK.out undef _ (hJ.store (a := 14) (n := 3) (T := 23) (Cn := (cS (meetS (expT (subV (ofV 0 0 0) x)).c.x (turnT (expT x)).c.x))) hLi (by simp) (by simp) (by simp) (by simp) (by simp) (by simp) hLa ke kge rfl hE hk hz) trivial (veL_flat rfl)
  ·
   exact .inr ⟨rfl, fun K' hK => wp_asgn (.tmp 60) rfl (eval_tmp ((hin 13 60 rfl).trans (congrArg some (show uu 13 = .bool true from (hd 13 (by decide) (by kernel_rfl)).2)))) (hK _ _ (hJ.grow hLi (by simp) (by simp) (Below.refl _ _)) rfl veL_same)⟩
 clear hM
 intro LL uu W21 hLL hJm hd
 have e_0 : uu 0 = .int .i64 2 := hd 0 (by decide)
 have e_1 : uu 1 = .int .i64 0 := hd 1 (by decide)
 have e_2 : uu 2 = .pointer (some ⟨bk3, 18, none⟩) := hd 2 (by decide)
 have e_3 : uu 3 = .pointer (some ⟨bk3, 18, none⟩) := hd 3 (by decide)
 have e_4 : uu 4 = .agg (cS (expT (subV (ofV 0 0 0) x)).c.x) := hd 4 (by decide)
 have e_5 : uu 5 = .int .i64 2 := hd 5 (by decide)
 have e_6 : uu 6 = .int .i64 0 := hd 6 (by decide)
 have e_7 : uu 7 = .pointer (some ⟨bk4, 18, none⟩) := hd 7 (by decide)
 have e_8 : uu 8 = .pointer (some ⟨bk4, 18, none⟩) := hd 8 (by decide)
 have e_9 : uu 9 = .agg (cS (turnT (expT x)).c.x) := hd 9 (by decide)
 have e_10 : uu 10 = .tuple #[.agg (cS (meetS (expT (subV (ofV 0 0 0) x)).c.x (turnT (expT x)).c.x)), .bool true] := hd 10 (by decide)
 have e_11 : uu 11 = .tuple #[.agg (cS (meetS (expT (subV (ofV 0 0 0) x)).c.x (turnT (expT x)).c.x)), .bool true] := hd 11 (by decide)
 have e_12 : uu 12 = .agg (cS (meetS (expT (subV (ofV 0 0 0) x)).c.x (turnT (expT x)).c.x)) := hd 12 (by decide)
 have e_13 : uu 13 = .bool true := hd 13 (by decide)
 obtain ⟨bk11, kC14, e_14, nge14, ksz14, nB14⟩ := hJm.bx (14, 3, 23) (by simp) (hLL 14 (by decide))
 have e_16 : uu 16 = .bool true := hd 16 (by decide)
 obtain ⟨_, kb15, ke15, kl15⟩ := hJm.st (15, 14, (cS (meetS (expT (subV (ofV 0 0 0) x)).c.x (turnT (expT x)).c.x)), 23) (by simp) (hLL 15 (by decide))
 have kq15 : kb15 = bk11 := by
  have hq := ke15.symm.trans e_14
  injection hq with hq
  injection hq with hq
  injection hq with hq
 subst kq15
 clear ke15
 have g14 := hJm.em.join nge14 kl15
 clear hd hLL
 simp only [layS, Act.put, List.setIfInBounds_toArray, List.set_cons_succ, List.set_cons_zero, Nat.zero_add, Nat.reduceAdd, List.drop_succ_cons, List.drop_zero, List.drop_nil, e_0, e_1, e_2, e_3, e_4, e_5, e_6, e_7, e_8, e_9, e_10, e_11, e_12, e_13, e_14, e_16]
 have hJ21 := g14
 clear hJm e_0 e_1 e_2 e_3 e_4 e_5 e_6 e_7 e_8 e_9 e_10 e_11 e_12 e_13 e_14 e_16 nge14 nB14 ksz14 g14
 have hJ21d := hJ21.sub (List.sublist_cons_self _ _)
 clear hJ21
 go_wp2
 rw [rounds_succ]
 go_wp2
 obtain ⟨m15_21, hm⟩ : ∃ m, m = W21.heap.size := ⟨_, rfl⟩
 have hM : ∀ uu, Jz w m15_21 [(bk4, (cT (turnT (expT x))), 50), (bk3, (cT (expT (subV (ofV 0 0 0) x))), 50), (bk2, (cT (expT x)), 50), (bk1, (cV x), 25)] [(14, 3, 23)] [(15, 14, (cS (meetS (expT (subV (ofV 0 0 0) x)).c.y (turnT (expT x)).c.y)), 23)] (fun _ => false) uu W21.drew := fun uu => by rw [hm]; exact Jz.start hJ21d uu
 clear hm hJ21d
 refine wp_region_y 17 [some 48, some 49, some 50, some 51, some 52, some 53, some 54, some 55, some 56, some 57, some 58, some 47, some 59, some 60, some 13, none, some 14] (veL m15_21 [.eq (.int .i64 2), .eq (.int .i64 1), .eq (.pointer (some ⟨bk3, 18, none⟩)), .eq (.pointer (some ⟨bk3, 21, none⟩)), .eq (.agg (cS (expT (subV (ofV 0 0 0) x)).c.y)), .eq (.int .i64 2), .eq (.int .i64 1), .eq (.pointer (some ⟨bk4, 18, none⟩)), .eq (.pointer (some ⟨bk4, 21, none⟩)), .eq (.agg (cS (turnT (expT x)).c.y)), .eq (.tuple #[.agg (cS (meetS (expT (subV (ofV 0 0 0) x)).c.y (turnT (expT x)).c.y)), .bool true]), .eq (.tuple #[.agg (cS (meetS (expT (subV (ofV 0 0 0) x)).c.y (turnT (expT x)).c.y)), .bool true]), .eq (.agg (cS (meetS (expT (subV (ofV 0 0 0) x)).c.y (turnT (expT x)).c.y))), .eq (.bool true), .any, .any, .eq (.bool true)]) (Jz w m15_21 [(bk4, (cT (turnT (expT x))), 50), (bk3, (cT (expT (subV (ofV 0 0 0) x))), 50), (bk2, (cT (expT x)), 50), (bk1, (cV x), 25)] [(14, 3, 23)] [(15, 14, (cS (meetS (expT (subV (ofV 0 0 0) x)).c.y (turnT (expT x)).c.y)), 23)]) (by kernel_rfl) (by kernel_rfl) (by rfl) (by decide) (by rfl) hM ?_ ?_
 ·
  intro i hl hi LL uu ww aa hLi hJ hd hev hin
  clear hM
  obtain rfl | rfl | rfl | rfl | rfl | rfl | rfl | rfl | rfl | rfl | rfl | rfl | rfl | rfl | rfl | rfl | rfl : i = 0 ∨ i = 1 ∨ i = 2 ∨ i = 3 ∨ i = 4 ∨ i = 5 ∨ i = 6 ∨ i = 7 ∨ i = 8 ∨ i = 9 ∨ i = 10 ∨ i = 11 ∨ i = 12 ∨ i = 13 ∨ i = 14 ∨ i = 15 ∨ i = 16 := by omega
  ·
   exact .inr ⟨rfl, fun K' hK => wp_move (.tmp 11) rfl (eval_tmp ((hev 11 (by decide)).trans rfl)) (hK _ _ (hJ.grow hLi (by simp) (by simp) (Below.refl _ _)) rfl veL_same)⟩
  ·
   exact .inr ⟨rfl, fun K' hK => wp_move (.tmp 12) rfl (eval_tmp ((hev 12 (by decide)).trans rfl)) (hK _ _ (hJ.grow hLi (by simp) (by simp) (Below.refl _ _)) rfl veL_same)⟩
  ·
   exact .inr ⟨rfl, fun K' hK => wp_ixa 50 (.tmp 8) (.tmp 48) rfl (eval_tmp ((hev 8 (by decide)).trans rfl)) (eval_tmp ((hin 0 48 rfl).trans (congrArg some (show uu 0 = .int .i64 2 from (hd 0 (by decide) (by kernel_rfl)).2)))) (fun _ => by kernel_rfl) (hK _ _ (hJ.grow hLi (by simp) (by simp) (Below.refl _ _)) rfl veL_same)⟩
  ·
   exact .inr ⟨rfl, fun K' hK => wp_ixa 25 (.tmp 50) (.tmp 49) rfl (eval_tmp ((hin 2 50 rfl).trans (congrArg some (show uu 2 = .pointer (some ⟨bk3, 18, none⟩) from (hd 2 (by decide) (by kernel_rfl)).2)))) (eval_tmp ((hin 1 49 rfl).trans (congrArg some (show uu 1 = .int .i64 1 from (hd 1 (by decide) (by kernel_rfl)).2)))) (fun _ => by kernel_rfl) (hK _ _ (hJ.grow hLi (by simp) (by simp) (Below.refl _ _)) rfl veL_same)⟩
  ·
   exact .inr ⟨rfl, fun K' hK => wp_load 23 (.tmp 51) rfl bk3 21 3 (cT (expT (subV (ofV 0 0 0) x))) (cS (expT (subV (ofV 0 0 0) x)).c.y) 50 (hJ.em.es.at' _ (List.mem_of_getElem? (i := 1) rfl)) (eval_tmp ((hin 3 51 rfl).trans (congrArg some (show uu 3 = .pointer (some ⟨bk3, 21, none⟩) from (hd 3 (by decide) (by kernel_rfl)).2)))) ag23 sz23 (Nat.le_of_ble_eq_true (by kernel_rfl)) (by kernel_rfl) (hK _ _ (hJ.grow hLi (by simp) (by simp) (Below.refl _ _)) rfl veL_same)⟩
  ·
   exact .inr ⟨rfl, fun K' hK => wp_move (.tmp 11) rfl (eval_tmp ((hev 11 (by decide)).trans rfl)) (hK _ _ (hJ.grow hLi (by simp) (by simp) (Below.refl _ _)) rfl veL_same)⟩
  ·
   exact .inr ⟨rfl, fun K' hK => wp_move (.tmp 12) rfl (eval_tmp ((hev 12 (by decide)).trans rfl)) (hK _ _ (hJ.grow hLi (by simp) (by simp) (Below.refl _ _)) rfl veL_same)⟩
  ·
   exact .inr ⟨rfl, fun K' hK => wp_ixa 50 (.tmp 9) (.tmp 53) rfl (eval_tmp ((hev 9 (by decide)).trans rfl)) (eval_tmp ((hin 5 53 rfl).trans (congrArg some (show uu 5 = .int .i64 2 from (hd 5 (by decide) (by kernel_rfl)).2)))) (fun _ => by kernel_rfl) (hK _ _ (hJ.grow hLi (by simp) (by simp) (Below.refl _ _)) rfl veL_same)⟩
  ·
   exact .inr ⟨rfl, fun K' hK => wp_ixa 25 (.tmp 55) (.tmp 54) rfl (eval_tmp ((hin 7 55 rfl).trans (congrArg some (show uu 7 = .pointer (some ⟨bk4, 18, none⟩) from (hd 7 (by decide) (by kernel_rfl)).2)))) (eval_tmp ((hin 6 54 rfl).trans (congrArg some (show uu 6 = .int .i64 1 from (hd 6 (by decide) (by kernel_rfl)).2)))) (fun _ => by kernel_rfl) (hK _ _ (hJ.grow hLi (by simp) (by simp) (Below.refl _ _)) rfl veL_same)⟩
  ·
   exact .inr ⟨rfl, fun K' hK => wp_load 23 (.tmp 56) rfl bk4 21 3 (cT (turnT (expT x))) (cS (turnT (expT x)).c.y) 50 (hJ.em.es.at' _ (List.mem_of_getElem? (i := 0) rfl)) (eval_tmp ((hin 8 56 rfl).trans (congrArg some (show uu 8 = .pointer (some ⟨bk4, 21, none⟩) from (hd 8 (by decide) (by kernel_rfl)).2)))) ag23 sz23 (Nat.le_of_ble_eq_true (by kernel_rfl)) (by kernel_rfl) (hK _ _ (hJ.grow hLi (by simp) (by simp) (Below.refl _ _)) rfl veL_same)⟩
  ·
   exact .inr ⟨rfl, fun K' hK => wp_callv (.func 41) #[.tmp 52, .tmp 57] _ 41 #[] #[.agg (cS (expT (subV (ofV 0 0 0) x)).c.y), .agg (cS (turnT (expT x)).c.y)] #[.agg (cS (expT (subV (ofV 0 0 0) x)).c.y), .agg (cS (turnT (expT x)).c.y)] rfl rfl (map2 (eval_tmp ((hin 4 52 rfl).trans (congrArg some (show uu 4 = .agg (cS (expT (subV (ofV 0 0 0) x)).c.y) from (hd 4 (by decide) (by kernel_rfl)).2)))) (eval_tmp ((hin 9 57 rfl).trans (congrArg some (show uu 9 = .agg (cS (turnT (expT x)).c.y) from (hd 9 (by decide) (by kernel_rfl)).2))))) (by kernel_rfl) (fun _ _ => by kernel_rfl) (meet_yes (back_m x).2.2.2.1 ww) (fun _ hB => (hK _ _ (hJ.grow hLi (by simp) (by simp) hB) rfl (veL_flat rfl)))⟩
  ·
   exact .inr ⟨rfl, fun K' hK => wp_move (.tmp 58) rfl (eval_tmp ((hin 10 58 rfl).trans (congrArg some (show uu 10 = .tuple #[.agg (cS (meetS (expT (subV (ofV 0 0 0) x)).c.y (turnT (expT x)).c.y)), .bool true] from (hd 10 (by decide) (by kernel_rfl)).2)))) (hK _ _ (hJ.grow hLi (by simp) (by simp) (Below.refl _ _)) rfl veL_same)⟩
  ·
   exact .inr ⟨rfl, fun K' hK => wp_ext (.tmp 47) 0 rfl (eval_tmp ((hin 11 47 rfl).trans (congrArg some (show uu 11 = .tuple #[.agg (cS (meetS (expT (subV (ofV 0 0 0) x)).c.y (turnT (expT x)).c.y)), .bool true] from (hd 11 (by decide) (by kernel_rfl)).2)))) (fun _ => rfl) (hK _ _ (hJ.grow hLi (by simp) (by simp) (Below.refl _ _)) rfl veL_same)⟩
  ·
   exact .inr ⟨rfl, fun K' hK => wp_ext (.tmp 47) 1 rfl (eval_tmp ((hin 11 47 rfl).trans (congrArg some (show uu 11 = .tuple #[.agg (cS (meetS (expT (subV (ofV 0 0 0) x)).c.y (turnT (expT x)).c.y)), .bool true] from (hd 11 (by decide) (by kernel_rfl)).2)))) (fun _ => rfl) (hK _ _ (hJ.grow hLi (by simp) (by simp) (Below.refl _ _)) rfl veL_same)⟩
  ·
   exact .inr ⟨rfl, fun K' hK => wp_alloc 23 rfl (.agg (cS zS)) zv23 (hK _ _ (hJ.alloc hLi (n := 3) rfl (by simp) (by simp)) trivial (veL_flat rfl))⟩
  ·
   have hLa := (hd 14 (by decide) (by kernel_rfl)).1
   obtain ⟨kb, kC, ke, kge, ksz, kcl⟩ := hJ.bx (14, 3, 23) (by simp) hLa
   have x13 : aa.tmps[13]? = some (.pointer (some ⟨kb, 0, none⟩)) := (hin 14 13 rfl).trans (congrArg some ke)
   have x59 : aa.tmps[59]? = some (.agg (cS (meetS (expT (subV (ofV 0 0 0) x)).c.y (turnT (expT x)).c.y))) := ((hin 12 59 rfl).trans (congrArg some (show uu 12 = .agg (cS (meetS (expT (subV (ofV 0 0 0) x)).c.y (turnT (expT x)).c.y)) from (hd 12 (by decide) (by kernel_rfl)).2)))
   clear hd hev hin
   simp only [List.getElem_cons_succ, List.getElem_cons_zero]
   clear hl
   refine .inr ⟨rfl, fun K' hK => ?_⟩
   have HK := Lib.hid hK
   clear hK
   refine wp_store 23 (.tmp 13) (.tmp 59) rfl 0 kb 0 kC 23 3 (cS (meetS (expT (subV (ofV 0 0 0) x)).c.y (turnT (expT x)).c.y)).toList (hJ.em.join kge kcl) rfl (eval_tmp x13) (by rw [eval_tmp x59]; rfl) sz23 (by kernel_rfl) (by rw [ksz]; decide) (by kernel_rfl) (fun ww2 hE hk hz => ?_)
   rw [putC_full (show kC.size = (cS (meetS (expT (subV (ofV 0 0 0) x)).c.y (turnT (expT x)).c.y)).toList.length from ksz), Array.toArray_toList] at hE
   exact HK.out undef _ (hJ.store (a := 14) (n := 3) (T := 23) (Cn := (cS (meetS (expT (subV (ofV 0 0 0) x)).c.y (turnT (expT x)).c.y))) hLi (by simp) (by simp) (by simp) (by simp) (by simp) (by simp) hLa ke kge rfl hE hk hz) trivial (veL_flat rfl)
  ·
   exact .inr ⟨rfl, fun K' hK => wp_asgn (.tmp 60) rfl (eval_tmp ((hin 13 60 rfl).trans (congrArg some (show uu 13 = .bool true from (hd 13 (by decide) (by kernel_rfl)).2)))) (hK _ _ (hJ.grow hLi (by simp) (by simp) (Below.refl _ _)) rfl veL_same)⟩
 clear hM
 intro LL uu W22 hLL hJm hd
 have e_0 : uu 0 = .int .i64 2 := hd 0 (by decide)
 have e_1 : uu 1 = .int .i64 1 := hd 1 (by decide)
 have e_2 : uu 2 = .pointer (some ⟨bk3, 18, none⟩) := hd 2 (by decide)
 have e_3 : uu 3 = .pointer (some ⟨bk3, 21, none⟩) := hd 3 (by decide)
 have e_4 : uu 4 = .agg (cS (expT (subV (ofV 0 0 0) x)).c.y) := hd 4 (by decide)
 have e_5 : uu 5 = .int .i64 2 := hd 5 (by decide)
 have e_6 : uu 6 = .int .i64 1 := hd 6 (by decide)
 have e_7 : uu 7 = .pointer (some ⟨bk4, 18, none⟩) := hd 7 (by decide)
 have e_8 : uu 8 = .pointer (some ⟨bk4, 21, none⟩) := hd 8 (by decide)
 have e_9 : uu 9 = .agg (cS (turnT (expT x)).c.y) := hd 9 (by decide)
 have e_10 : uu 10 = .tuple #[.agg (cS (meetS (expT (subV (ofV 0 0 0) x)).c.y (turnT (expT x)).c.y)), .bool true] := hd 10 (by decide)
 have e_11 : uu 11 = .tuple #[.agg (cS (meetS (expT (subV (ofV 0 0 0) x)).c.y (turnT (expT x)).c.y)), .bool true] := hd 11 (by decide)
 have e_12 : uu 12 = .agg (cS (meetS (expT (subV (ofV 0 0 0) x)).c.y (turnT (expT x)).c.y)) := hd 12 (by decide)
 have e_13 : uu 13 = .bool true := hd 13 (by decide)
 obtain ⟨bk12, kC14, e_14, nge14, ksz14, nB14⟩ := hJm.bx (14, 3, 23) (by simp) (hLL 14 (by decide))
 have e_16 : uu 16 = .bool true := hd 16 (by decide)
 obtain ⟨_, kb15, ke15, kl15⟩ := hJm.st (15, 14, (cS (meetS (expT (subV (ofV 0 0 0) x)).c.y (turnT (expT x)).c.y)), 23) (by simp) (hLL 15 (by decide))
 have kq15 : kb15 = bk12 := by
  have hq := ke15.symm.trans e_14
  injection hq with hq
  injection hq with hq
  injection hq with hq
 subst kq15
 clear ke15
 have g14 := hJm.em.join nge14 kl15
 clear hd hLL
 simp only [layS, Act.put, List.setIfInBounds_toArray, List.set_cons_succ, List.set_cons_zero, Nat.zero_add, Nat.reduceAdd, List.drop_succ_cons, List.drop_zero, List.drop_nil, e_0, e_1, e_2, e_3, e_4, e_5, e_6, e_7, e_8, e_9, e_10, e_11, e_12, e_13, e_14, e_16]
 have hJ22 := g14
 clear hJm e_0 e_1 e_2 e_3 e_4 e_5 e_6 e_7 e_8 e_9 e_10 e_11 e_12 e_13 e_14 e_16 nge14 nB14 ksz14 g14
 have hJ22d := hJ22.sub (List.sublist_cons_self _ _)
 clear hJ22
 go_wp2
 rw [rounds_succ]
 go_wp2
 obtain ⟨m15_22, hm⟩ : ∃ m, m = W22.heap.size := ⟨_, rfl⟩
 have hM : ∀ uu, Jz w m15_22 [(bk4, (cT (turnT (expT x))), 50), (bk3, (cT (expT (subV (ofV 0 0 0) x))), 50), (bk2, (cT (expT x)), 50), (bk1, (cV x), 25)] [(14, 3, 23)] [(15, 14, (cS (meetS (expT (subV (ofV 0 0 0) x)).c.z (turnT (expT x)).c.z)), 23)] (fun _ => false) uu W22.drew := fun uu => by rw [hm]; exact Jz.start hJ22d uu
 clear hm hJ22d
 refine wp_region_y 17 [some 48, some 49, some 50, some 51, some 52, some 53, some 54, some 55, some 56, some 57, some 58, some 47, some 59, some 60, some 13, none, some 14] (veL m15_22 [.eq (.int .i64 2), .eq (.int .i64 2), .eq (.pointer (some ⟨bk3, 18, none⟩)), .eq (.pointer (some ⟨bk3, 24, none⟩)), .eq (.agg (cS (expT (subV (ofV 0 0 0) x)).c.z)), .eq (.int .i64 2), .eq (.int .i64 2), .eq (.pointer (some ⟨bk4, 18, none⟩)), .eq (.pointer (some ⟨bk4, 24, none⟩)), .eq (.agg (cS (turnT (expT x)).c.z)), .eq (.tuple #[.agg (cS (meetS (expT (subV (ofV 0 0 0) x)).c.z (turnT (expT x)).c.z)), .bool true]), .eq (.tuple #[.agg (cS (meetS (expT (subV (ofV 0 0 0) x)).c.z (turnT (expT x)).c.z)), .bool true]), .eq (.agg (cS (meetS (expT (subV (ofV 0 0 0) x)).c.z (turnT (expT x)).c.z))), .eq (.bool true), .any, .any, .eq (.bool true)]) (Jz w m15_22 [(bk4, (cT (turnT (expT x))), 50), (bk3, (cT (expT (subV (ofV 0 0 0) x))), 50), (bk2, (cT (expT x)), 50), (bk1, (cV x), 25)] [(14, 3, 23)] [(15, 14, (cS (meetS (expT (subV (ofV 0 0 0) x)).c.z (turnT (expT x)).c.z)), 23)]) (by kernel_rfl) (by kernel_rfl) (by rfl) (by decide) (by rfl) hM ?_ ?_
 ·
  intro i hl hi LL uu ww aa hLi hJ hd hev hin
  clear hM
  obtain rfl | rfl | rfl | rfl | rfl | rfl | rfl | rfl | rfl | rfl | rfl | rfl | rfl | rfl | rfl | rfl | rfl : i = 0 ∨ i = 1 ∨ i = 2 ∨ i = 3 ∨ i = 4 ∨ i = 5 ∨ i = 6 ∨ i = 7 ∨ i = 8 ∨ i = 9 ∨ i = 10 ∨ i = 11 ∨ i = 12 ∨ i = 13 ∨ i = 14 ∨ i = 15 ∨ i = 16 := by omega
  ·
   exact .inr ⟨rfl, fun K' hK => wp_move (.tmp 11) rfl (eval_tmp ((hev 11 (by decide)).trans rfl)) (hK _ _ (hJ.grow hLi (by simp) (by simp) (Below.refl _ _)) rfl veL_same)⟩
  ·
   exact .inr ⟨rfl, fun K' hK => wp_move (.tmp 12) rfl (eval_tmp ((hev 12 (by decide)).trans rfl)) (hK _ _ (hJ.grow hLi (by simp) (by simp) (Below.refl _ _)) rfl veL_same)⟩
  ·
   exact .inr ⟨rfl, fun K' hK => wp_ixa 50 (.tmp 8) (.tmp 48) rfl (eval_tmp ((hev 8 (by decide)).trans rfl)) (eval_tmp ((hin 0 48 rfl).trans (congrArg some (show uu 0 = .int .i64 2 from (hd 0 (by decide) (by kernel_rfl)).2)))) (fun _ => by kernel_rfl) (hK _ _ (hJ.grow hLi (by simp) (by simp) (Below.refl _ _)) rfl veL_same)⟩
  ·
   exact .inr ⟨rfl, fun K' hK => wp_ixa 25 (.tmp 50) (.tmp 49) rfl (eval_tmp ((hin 2 50 rfl).trans (congrArg some (show uu 2 = .pointer (some ⟨bk3, 18, none⟩) from (hd 2 (by decide) (by kernel_rfl)).2)))) (eval_tmp ((hin 1 49 rfl).trans (congrArg some (show uu 1 = .int .i64 2 from (hd 1 (by decide) (by kernel_rfl)).2)))) (fun _ => by kernel_rfl) (hK _ _ (hJ.grow hLi (by simp) (by simp) (Below.refl _ _)) rfl veL_same)⟩
  ·
   exact .inr ⟨rfl, fun K' hK => wp_load 23 (.tmp 51) rfl bk3 24 3 (cT (expT (subV (ofV 0 0 0) x))) (cS (expT (subV (ofV 0 0 0) x)).c.z) 50 (hJ.em.es.at' _ (List.mem_of_getElem? (i := 1) rfl)) (eval_tmp ((hin 3 51 rfl).trans (congrArg some (show uu 3 = .pointer (some ⟨bk3, 24, none⟩) from (hd 3 (by decide) (by kernel_rfl)).2)))) ag23 sz23 (Nat.le_of_ble_eq_true (by kernel_rfl)) (by kernel_rfl) (hK _ _ (hJ.grow hLi (by simp) (by simp) (Below.refl _ _)) rfl veL_same)⟩
  ·
   exact .inr ⟨rfl, fun K' hK => wp_move (.tmp 11) rfl (eval_tmp ((hev 11 (by decide)).trans rfl)) (hK _ _ (hJ.grow hLi (by simp) (by simp) (Below.refl _ _)) rfl veL_same)⟩
  ·
   exact .inr ⟨rfl, fun K' hK => wp_move (.tmp 12) rfl (eval_tmp ((hev 12 (by decide)).trans rfl)) (hK _ _ (hJ.grow hLi (by simp) (by simp) (Below.refl _ _)) rfl veL_same)⟩
  ·
   exact .inr ⟨rfl, fun K' hK => wp_ixa 50 (.tmp 9) (.tmp 53) rfl (eval_tmp ((hev 9 (by decide)).trans rfl)) (eval_tmp ((hin 5 53 rfl).trans (congrArg some (show uu 5 = .int .i64 2 from (hd 5 (by decide) (by kernel_rfl)).2)))) (fun _ => by kernel_rfl) (hK _ _ (hJ.grow hLi (by simp) (by simp) (Below.refl _ _)) rfl veL_same)⟩
  ·
   exact .inr ⟨rfl, fun K' hK => wp_ixa 25 (.tmp 55) (.tmp 54) rfl (eval_tmp ((hin 7 55 rfl).trans (congrArg some (show uu 7 = .pointer (some ⟨bk4, 18, none⟩) from (hd 7 (by decide) (by kernel_rfl)).2)))) (eval_tmp ((hin 6 54 rfl).trans (congrArg some (show uu 6 = .int .i64 2 from (hd 6 (by decide) (by kernel_rfl)).2)))) (fun _ => by kernel_rfl) (hK _ _ (hJ.grow hLi (by simp) (by simp) (Below.refl _ _)) rfl veL_same)⟩
  ·
   exact .inr ⟨rfl, fun K' hK => wp_load 23 (.tmp 56) rfl bk4 24 3 (cT (turnT (expT x))) (cS (turnT (expT x)).c.z) 50 (hJ.em.es.at' _ (List.mem_of_getElem? (i := 0) rfl)) (eval_tmp ((hin 8 56 rfl).trans (congrArg some (show uu 8 = .pointer (some ⟨bk4, 24, none⟩) from (hd 8 (by decide) (by kernel_rfl)).2)))) ag23 sz23 (Nat.le_of_ble_eq_true (by kernel_rfl)) (by kernel_rfl) (hK _ _ (hJ.grow hLi (by simp) (by simp) (Below.refl _ _)) rfl veL_same)⟩
  ·
   exact .inr ⟨rfl, fun K' hK => wp_callv (.func 41) #[.tmp 52, .tmp 57] _ 41 #[] #[.agg (cS (expT (subV (ofV 0 0 0) x)).c.z), .agg (cS (turnT (expT x)).c.z)] #[.agg (cS (expT (subV (ofV 0 0 0) x)).c.z), .agg (cS (turnT (expT x)).c.z)] rfl rfl (map2 (eval_tmp ((hin 4 52 rfl).trans (congrArg some (show uu 4 = .agg (cS (expT (subV (ofV 0 0 0) x)).c.z) from (hd 4 (by decide) (by kernel_rfl)).2)))) (eval_tmp ((hin 9 57 rfl).trans (congrArg some (show uu 9 = .agg (cS (turnT (expT x)).c.z) from (hd 9 (by decide) (by kernel_rfl)).2))))) (by kernel_rfl) (fun _ _ => by kernel_rfl) (meet_yes (back_m x).2.2.2.2 ww) (fun _ hB => (hK _ _ (hJ.grow hLi (by simp) (by simp) hB) rfl (veL_flat rfl)))⟩
  ·
   exact .inr ⟨rfl, fun K' hK => wp_move (.tmp 58) rfl (eval_tmp ((hin 10 58 rfl).trans (congrArg some (show uu 10 = .tuple #[.agg (cS (meetS (expT (subV (ofV 0 0 0) x)).c.z (turnT (expT x)).c.z)), .bool true] from (hd 10 (by decide) (by kernel_rfl)).2)))) (hK _ _ (hJ.grow hLi (by simp) (by simp) (Below.refl _ _)) rfl veL_same)⟩
  ·
   exact .inr ⟨rfl, fun K' hK => wp_ext (.tmp 47) 0 rfl (eval_tmp ((hin 11 47 rfl).trans (congrArg some (show uu 11 = .tuple #[.agg (cS (meetS (expT (subV (ofV 0 0 0) x)).c.z (turnT (expT x)).c.z)), .bool true] from (hd 11 (by decide) (by kernel_rfl)).2)))) (fun _ => rfl) (hK _ _ (hJ.grow hLi (by simp) (by simp) (Below.refl _ _)) rfl veL_same)⟩
  ·
   exact .inr ⟨rfl, fun K' hK => wp_ext (.tmp 47) 1 rfl (eval_tmp ((hin 11 47 rfl).trans (congrArg some (show uu 11 = .tuple #[.agg (cS (meetS (expT (subV (ofV 0 0 0) x)).c.z (turnT (expT x)).c.z)), .bool true] from (hd 11 (by decide) (by kernel_rfl)).2)))) (fun _ => rfl) (hK _ _ (hJ.grow hLi (by simp) (by simp) (Below.refl _ _)) rfl veL_same)⟩
  ·
   exact .inr ⟨rfl, fun K' hK => wp_alloc 23 rfl (.agg (cS zS)) zv23 (hK _ _ (hJ.alloc hLi (n := 3) rfl (by simp) (by simp)) trivial (veL_flat rfl))⟩
  ·
   have hLa := (hd 14 (by decide) (by kernel_rfl)).1
   obtain ⟨kb, kC, ke, kge, ksz, kcl⟩ := hJ.bx (14, 3, 23) (by simp) hLa
   have x13 : aa.tmps[13]? = some (.pointer (some ⟨kb, 0, none⟩)) := (hin 14 13 rfl).trans (congrArg some ke)
   have x59 : aa.tmps[59]? = some (.agg (cS (meetS (expT (subV (ofV 0 0 0) x)).c.z (turnT (expT x)).c.z))) := ((hin 12 59 rfl).trans (congrArg some (show uu 12 = .agg (cS (meetS (expT (subV (ofV 0 0 0) x)).c.z (turnT (expT x)).c.z)) from (hd 12 (by decide) (by kernel_rfl)).2)))
   clear hd hev hin
   simp only [List.getElem_cons_succ, List.getElem_cons_zero]
   clear hl
   refine .inr ⟨rfl, fun K' hK => ?_⟩
   have HK := Lib.hid hK
   clear hK
   refine wp_store 23 (.tmp 13) (.tmp 59) rfl 0 kb 0 kC 23 3 (cS (meetS (expT (subV (ofV 0 0 0) x)).c.z (turnT (expT x)).c.z)).toList (hJ.em.join kge kcl) rfl (eval_tmp x13) (by rw [eval_tmp x59]; rfl) sz23 (by kernel_rfl) (by rw [ksz]; decide) (by kernel_rfl) (fun ww2 hE hk hz => ?_)
   rw [putC_full (show kC.size = (cS (meetS (expT (subV (ofV 0 0 0) x)).c.z (turnT (expT x)).c.z)).toList.length from ksz), Array.toArray_toList] at hE
   exact HK.out undef _ (hJ.store (a := 14) (n := 3) (T := 23) (Cn := (cS (meetS (expT (subV (ofV 0 0 0) x)).c.z (turnT (expT x)).c.z))) hLi (by simp) (by simp) (by simp) (by simp) (by simp) (by simp) hLa ke kge rfl hE hk hz) trivial (veL_flat rfl)
  ·
   exact .inr ⟨rfl, fun K' hK => wp_asgn (.tmp 60) rfl (eval_tmp ((hin 13 60 rfl).trans (congrArg some (show uu 13 = .bool true from (hd 13 (by decide) (by kernel_rfl)).2)))) (hK _ _ (hJ.grow hLi (by simp) (by simp) (Below.refl _ _)) rfl veL_same)⟩
 clear hM
 intro LL uu W23 hLL hJm hd
 have e_0 : uu 0 = .int .i64 2 := hd 0 (by decide)
 have e_1 : uu 1 = .int .i64 2 := hd 1 (by decide)
 have e_2 : uu 2 = .pointer (some ⟨bk3, 18, none⟩) := hd 2 (by decide)
 have e_3 : uu 3 = .pointer (some ⟨bk3, 24, none⟩) := hd 3 (by decide)
 have e_4 : uu 4 = .agg (cS (expT (subV (ofV 0 0 0) x)).c.z) := hd 4 (by decide)
 have e_5 : uu 5 = .int .i64 2 := hd 5 (by decide)
 have e_6 : uu 6 = .int .i64 2 := hd 6 (by decide)
 have e_7 : uu 7 = .pointer (some ⟨bk4, 18, none⟩) := hd 7 (by decide)
 have e_8 : uu 8 = .pointer (some ⟨bk4, 24, none⟩) := hd 8 (by decide)
 have e_9 : uu 9 = .agg (cS (turnT (expT x)).c.z) := hd 9 (by decide)
 have e_10 : uu 10 = .tuple #[.agg (cS (meetS (expT (subV (ofV 0 0 0) x)).c.z (turnT (expT x)).c.z)), .bool true] := hd 10 (by decide)
 have e_11 : uu 11 = .tuple #[.agg (cS (meetS (expT (subV (ofV 0 0 0) x)).c.z (turnT (expT x)).c.z)), .bool true] := hd 11 (by decide)
 have e_12 : uu 12 = .agg (cS (meetS (expT (subV (ofV 0 0 0) x)).c.z (turnT (expT x)).c.z)) := hd 12 (by decide)
 have e_13 : uu 13 = .bool true := hd 13 (by decide)
 obtain ⟨bk13, kC14, e_14, nge14, ksz14, nB14⟩ := hJm.bx (14, 3, 23) (by simp) (hLL 14 (by decide))
 have e_16 : uu 16 = .bool true := hd 16 (by decide)
 obtain ⟨_, kb15, ke15, kl15⟩ := hJm.st (15, 14, (cS (meetS (expT (subV (ofV 0 0 0) x)).c.z (turnT (expT x)).c.z)), 23) (by simp) (hLL 15 (by decide))
 have kq15 : kb15 = bk13 := by
  have hq := ke15.symm.trans e_14
  injection hq with hq
  injection hq with hq
  injection hq with hq
 subst kq15
 clear ke15
 have g14 := hJm.em.join nge14 kl15
 clear hd hLL
 simp only [layS, Act.put, List.setIfInBounds_toArray, List.set_cons_succ, List.set_cons_zero, Nat.zero_add, Nat.reduceAdd, List.drop_succ_cons, List.drop_zero, List.drop_nil, e_0, e_1, e_2, e_3, e_4, e_5, e_6, e_7, e_8, e_9, e_10, e_11, e_12, e_13, e_14, e_16]
 have hJ23 := g14
 clear hJm e_0 e_1 e_2 e_3 e_4 e_5 e_6 e_7 e_8 e_9 e_10 e_11 e_12 e_13 e_14 e_16 nge14 nB14 ksz14 g14
 have hJ23d := hJ23.sub (List.sublist_cons_self _ _)
 clear hJ23
 go_wp2
 rw [rounds_succ]
 go_wp2
 rw [rounds_succ]
 go_wp2
 go_ret
 exact ⟨rfl, hJ23d.below⟩
theorem RotBack_any (x : Vc) (w : World) : Calls Try.prog 5 #[.agg (cV x)] w (PVal (.bool true) w) :=
 rb_w x (fun W => by have := tIn_any idT (mulT (expT x) (turnT (expT x))) W; rw [(back_a x).1] at this; exact this) (fun W => by have := tIn_any idT (mulT (turnT (expT x)) (expT x)) W; rw [(back_a x).2] at this; exact this) (fun W => by have := Has_any (detT (expT x)) 1048576 W; rw [back_d x] at this; exact this) w
end Go.Proofs.Ytdochhhepmlapaa
