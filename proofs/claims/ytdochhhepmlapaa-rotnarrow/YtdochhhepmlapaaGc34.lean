/- Parts of the proof. -/
import Derived.Test.YtdochhhepmlapaaGc33
/- The walk of the law RotNarrow. No statement of the seat is proved here. -/
namespace Go.Proofs.Ytdochhhepmlapaa
open Go Go.RowKit
set_option maxRecDepth 100000 in
set_option maxHeartbeats 12800000 in
theorem rn_00 (v x u : Vc) (r q : Tu) (a : Bool) (b c d : Bool) (hHp : ∀ W : World, Calls Try.prog 25 #[.agg (cV v), .agg (cV x)] W (PVal (.bool false) W)) (hHs : ∀ W : World, Calls Try.prog 36 #[.agg (cT r), .agg (cT q)] W (PVal (.bool false) W)) (hHa : ∀ W : World, Calls Try.prog 36 #[.agg (cT (expT v)), .agg (cT (expT x))] W (PVal (.bool a) W)) (hHb : ∀ W : World, Calls Try.prog 25 #[.agg (cV (appT r u)), .agg (cV (appT q u))] W (PVal (.bool b) W)) (hHc : ∀ W : World, Calls Try.prog 36 #[.agg (cT (mulT r r)), .agg (cT (mulT q q))] W (PVal (.bool c) W)) (hHd : ∀ W : World, Calls Try.prog 44 #[.agg (cS (detT r)), .agg (cS (detT q))] W (PVal (.bool d) W)) (w : World)   : Calls Try.prog 8 #[.agg (cV v), .agg (cV x), .agg (cT r), .agg (cT q), .agg (cV u)] w (PVal (.bool true) w) := by
 have Hp := Lib.hid hHp
 have Hs := Lib.hid hHs
 have Ha := Lib.hid hHa
 have Hb := Lib.hid hHb
 have Hc := Lib.hid hHc
 have Hd := Lib.hid hHd
 clear hHp hHs hHa hHb hHc hHd
 have hJ0 := es_nil w
 go_enter Try.func8, Try.ntmps8
 go_wp2_with (refine stop_box 25 (.tmp 0) (cV v) rfl rfl rfl hJ0 (fun bk1 W1 hJ1 => ?_))
 clear hJ0
 unfold Stop
 try simp only [Act.put, List.setIfInBounds_toArray, List.set_cons_succ, List.set_cons_zero]
 go_wp2_with (refine stop_box 25 (.tmp 1) (cV x) rfl rfl rfl hJ1 (fun bk2 W2 hJ2 => ?_))
 clear hJ1
 unfold Stop
 try simp only [Act.put, List.setIfInBounds_toArray, List.set_cons_succ, List.set_cons_zero]
 go_wp2_with (refine stop_box 50 (.tmp 2) (cT r) rfl rfl rfl hJ2 (fun bk3 W3 hJ3 => ?_))
 clear hJ2
 unfold Stop
 try simp only [Act.put, List.setIfInBounds_toArray, List.set_cons_succ, List.set_cons_zero]
 go_wp2_with (refine stop_box 50 (.tmp 3) (cT q) rfl rfl rfl hJ3 (fun bk4 W4 hJ4 => ?_))
 clear hJ3
 unfold Stop
 try simp only [Act.put, List.setIfInBounds_toArray, List.set_cons_succ, List.set_cons_zero]
 go_wp2_with (refine stop_box 25 (.tmp 4) (cV u) rfl rfl rfl hJ4 (fun bk5 W5 hJ5 => ?_))
 clear hJ4
 unfold Stop
 try simp only [Act.put, List.setIfInBounds_toArray, List.set_cons_succ, List.set_cons_zero]
 go_wp2_with fail
 refine (rawake_any W5).mono ?_
 rintro zz W6 ⟨rfl, hB⟩
 have hJ6 := hJ5.later hB
 clear hB
 clear hJ5
 go_wp2_with (refine stop_op rfl (fun K hK => wp_load 25 (.tmp 5) rfl bk1 0 9 (cV v) (cV v) 25 (hJ6.at' _ (List.mem_of_getElem? (i := 4) rfl)) rfl ag25 sz25 (Nat.le_of_ble_eq_true (by kernel_rfl)) (by kernel_rfl) (hK _ _ ?_)))
 unfold Stop
 try simp only [Act.put, List.setIfInBounds_toArray, List.set_cons_succ, List.set_cons_zero]
 go_wp2_with (refine stop_op rfl (fun K hK => wp_load 25 (.tmp 6) rfl bk2 0 9 (cV x) (cV x) 25 (hJ6.at' _ (List.mem_of_getElem? (i := 3) rfl)) rfl ag25 sz25 (Nat.le_of_ble_eq_true (by kernel_rfl)) (by kernel_rfl) (hK _ _ ?_)))
 unfold Stop
 try simp only [Act.put, List.setIfInBounds_toArray, List.set_cons_succ, List.set_cons_zero]
 go_wp2_with fail
 refine (Hp.out _).mono ?_
 rintro zz W7 ⟨rfl, hB⟩
 have hJ7 := hJ6.later hB
 clear hB
 clear hJ6
 go_wp2_with (refine stop_op rfl (fun K hK => wp_load 50 (.tmp 7) rfl bk3 0 27 (cT r) (cT r) 50 (hJ7.at' _ (List.mem_of_getElem? (i := 2) rfl)) rfl ag50 sz50 (Nat.le_of_ble_eq_true (by kernel_rfl)) (by kernel_rfl) (hK _ _ ?_)))
 unfold Stop
 try simp only [Act.put, List.setIfInBounds_toArray, List.set_cons_succ, List.set_cons_zero]
 go_wp2_with (refine stop_op rfl (fun K hK => wp_load 50 (.tmp 8) rfl bk4 0 27 (cT q) (cT q) 50 (hJ7.at' _ (List.mem_of_getElem? (i := 1) rfl)) rfl ag50 sz50 (Nat.le_of_ble_eq_true (by kernel_rfl)) (by kernel_rfl) (hK _ _ ?_)))
 unfold Stop
 try simp only [Act.put, List.setIfInBounds_toArray, List.set_cons_succ, List.set_cons_zero]
 go_wp2_with fail
 refine (Hs.out _).mono ?_
 rintro zz W8 ⟨rfl, hB⟩
 have hJ8 := hJ7.later hB
 clear hB
 clear hJ7
 go_wp2
 obtain ⟨m4_8, hm⟩ : ∃ m, m = W8.heap.size := ⟨_, rfl⟩
 have hM := hJ8.em
 rw [← hm] at hM
 clear hm hJ8
 refine wp_region_z 6 [some 25, some 26, some 27, some 28, some 29, some 14] (veL m4_8 [.eq (.agg (cV v)), .eq (.agg (cT (expT v))), .eq (.agg (cV x)), .eq (.agg (cT (expT x))), .eq (.bool a), .eq (.bool a)]) (Em w m4_8 [(bk5, (cV u), 25), (bk4, (cT q), 50), (bk3, (cT r), 50), (bk2, (cV x), 25), (bk1, (cV v), 25)]) (by kernel_rfl) (by kernel_rfl) (by rfl) (by decide) (by rfl) hM ?_ ?_
 ·
  intro i hl hi uu ww aa hJ hd hev hin
  clear hM
  obtain rfl | rfl | rfl | rfl | rfl | rfl : i = 0 ∨ i = 1 ∨ i = 2 ∨ i = 3 ∨ i = 4 ∨ i = 5 := by omega
  ·
   exact .inr ⟨rfl, fun K' hK => wp_load 25 (.tmp 5) rfl bk1 0 9 (cV v) (cV v) 25 (hJ.es.at' _ (List.mem_of_getElem? (i := 4) rfl)) (eval_tmp ((hev 5 (by decide)).trans rfl)) ag25 sz25 (Nat.le_of_ble_eq_true (by kernel_rfl)) (by kernel_rfl) (hK _ _ hJ rfl veL_same)⟩
  ·
   exact .inr ⟨rfl, fun K' hK => wp_callv (.func 34) #[.tmp 25] _ 34 #[] #[.agg (cV v)] #[.agg (cV v)] rfl rfl (map1 (eval_tmp ((hin 0 25 rfl).trans (congrArg some (show uu 0 = .agg (cV v) from hd 0 (by decide) (by kernel_rfl)))))) (by kernel_rfl) (fun _ _ => by kernel_rfl) (tExp_any v ww) (fun _ hB => (hK _ _ (hJ.later hB) rfl (veL_later hB)))⟩
  ·
   exact .inr ⟨rfl, fun K' hK => wp_load 25 (.tmp 6) rfl bk2 0 9 (cV x) (cV x) 25 (hJ.es.at' _ (List.mem_of_getElem? (i := 3) rfl)) (eval_tmp ((hev 6 (by decide)).trans rfl)) ag25 sz25 (Nat.le_of_ble_eq_true (by kernel_rfl)) (by kernel_rfl) (hK _ _ hJ rfl veL_same)⟩
  ·
   exact .inr ⟨rfl, fun K' hK => wp_callv (.func 34) #[.tmp 27] _ 34 #[] #[.agg (cV x)] #[.agg (cV x)] rfl rfl (map1 (eval_tmp ((hin 2 27 rfl).trans (congrArg some (show uu 2 = .agg (cV x) from hd 2 (by decide) (by kernel_rfl)))))) (by kernel_rfl) (fun _ _ => by kernel_rfl) (tExp_any x ww) (fun _ hB => (hK _ _ (hJ.later hB) rfl (veL_later hB)))⟩
  ·
   exact .inr ⟨rfl, fun K' hK => wp_callv (.func 36) #[.tmp 26, .tmp 28] _ 36 #[] #[.agg (cT (expT v)), .agg (cT (expT x))] #[.agg (cT (expT v)), .agg (cT (expT x))] rfl rfl (map2 (eval_tmp ((hin 1 26 rfl).trans (congrArg some (show uu 1 = .agg (cT (expT v)) from hd 1 (by decide) (by kernel_rfl))))) (eval_tmp ((hin 3 28 rfl).trans (congrArg some (show uu 3 = .agg (cT (expT x)) from hd 3 (by decide) (by kernel_rfl)))))) (by kernel_rfl) (fun _ _ => by kernel_rfl) (Ha.out ww) (fun _ hB => (hK _ _ (hJ.later hB) rfl (veL_later hB)))⟩
  ·
   exact .inr ⟨rfl, fun K' hK => wp_asgn (.tmp 29) rfl (eval_tmp ((hin 4 29 rfl).trans (congrArg some (show uu 4 = .bool a from hd 4 (by decide) (by kernel_rfl))))) (hK _ _ hJ rfl veL_same)⟩
 clear hM
 intro uu W9 hJm hd
 have e_0 : uu 0 = .agg (cV v) := hd 0 (by decide)
 have e_1 : uu 1 = .agg (cT (expT v)) := hd 1 (by decide)
 have e_2 : uu 2 = .agg (cV x) := hd 2 (by decide)
 have e_3 : uu 3 = .agg (cT (expT x)) := hd 3 (by decide)
 have e_4 : uu 4 = .bool a := hd 4 (by decide)
 have e_5 : uu 5 = .bool a := hd 5 (by decide)
 clear hd
 simp only [layS, Act.put, List.setIfInBounds_toArray, List.set_cons_succ, List.set_cons_zero, Nat.zero_add, Nat.reduceAdd, List.drop_succ_cons, List.drop_zero, List.drop_nil, e_0, e_1, e_2, e_3, e_4, e_5]
 clear e_0 e_1 e_2 e_3 e_4 e_5
 have hJ9 := hJm.es
 clear hJm
 go_wp2
 obtain ⟨m5_9, hm⟩ : ∃ m, m = W9.heap.size := ⟨_, rfl⟩
 have hM := hJ9.em
 rw [← hm] at hM
 clear hm hJ9
 refine wp_region_z 8 [some 30, some 31, some 32, some 33, some 34, some 35, some 36, some 15] (veL m5_9 [.eq (.agg (cT r)), .eq (.agg (cV u)), .eq (.agg (cV (appT r u))), .eq (.agg (cT q)), .eq (.agg (cV u)), .eq (.agg (cV (appT q u))), .eq (.bool b), .eq (.bool b)]) (Em w m5_9 [(bk5, (cV u), 25), (bk4, (cT q), 50), (bk3, (cT r), 50), (bk2, (cV x), 25), (bk1, (cV v), 25)]) (by kernel_rfl) (by kernel_rfl) (by rfl) (by decide) (by rfl) hM ?_ ?_
 ·
  intro i hl hi uu ww aa hJ hd hev hin
  clear hM
  obtain rfl | rfl | rfl | rfl | rfl | rfl | rfl | rfl : i = 0 ∨ i = 1 ∨ i = 2 ∨ i = 3 ∨ i = 4 ∨ i = 5 ∨ i = 6 ∨ i = 7 := by omega
  ·
   exact .inr ⟨rfl, fun K' hK => wp_load 50 (.tmp 7) rfl bk3 0 27 (cT r) (cT r) 50 (hJ.es.at' _ (List.mem_of_getElem? (i := 2) rfl)) (eval_tmp ((hev 7 (by decide)).trans rfl)) ag50 sz50 (Nat.le_of_ble_eq_true (by kernel_rfl)) (by kernel_rfl) (hK _ _ hJ rfl veL_same)⟩
  ·
   exact .inr ⟨rfl, fun K' hK => wp_load 25 (.tmp 9) rfl bk5 0 9 (cV u) (cV u) 25 (hJ.es.at' _ (List.mem_of_getElem? (i := 0) rfl)) (eval_tmp ((hev 9 (by decide)).trans rfl)) ag25 sz25 (Nat.le_of_ble_eq_true (by kernel_rfl)) (by kernel_rfl) (hK _ _ hJ rfl veL_same)⟩
  ·
   exact .inr ⟨rfl, fun K' hK => wp_callv (.func 42) #[.tmp 30, .tmp 31] _ 42 #[] #[.agg (cT r), .agg (cV u)] #[.agg (cT r), .agg (cV u)] rfl rfl (map2 (eval_tmp ((hin 0 30 rfl).trans (congrArg some (show uu 0 = .agg (cT r) from hd 0 (by decide) (by kernel_rfl))))) (eval_tmp ((hin 1 31 rfl).trans (congrArg some (show uu 1 = .agg (cV u) from hd 1 (by decide) (by kernel_rfl)))))) (by kernel_rfl) (fun _ _ => by kernel_rfl) (tApp_any r u ww) (fun _ hB => (hK _ _ (hJ.later hB) rfl (veL_later hB)))⟩
  ·
   exact .inr ⟨rfl, fun K' hK => wp_load 50 (.tmp 8) rfl bk4 0 27 (cT q) (cT q) 50 (hJ.es.at' _ (List.mem_of_getElem? (i := 1) rfl)) (eval_tmp ((hev 8 (by decide)).trans rfl)) ag50 sz50 (Nat.le_of_ble_eq_true (by kernel_rfl)) (by kernel_rfl) (hK _ _ hJ rfl veL_same)⟩
  ·
   exact .inr ⟨rfl, fun K' hK => wp_load 25 (.tmp 9) rfl bk5 0 9 (cV u) (cV u) 25 (hJ.es.at' _ (List.mem_of_getElem? (i := 0) rfl)) (eval_tmp ((hev 9 (by decide)).trans rfl)) ag25 sz25 (Nat.le_of_ble_eq_true (by kernel_rfl)) (by kernel_rfl) (hK _ _ hJ rfl veL_same)⟩
  ·
   exact .inr ⟨rfl, fun K' hK => wp_callv (.func 42) #[.tmp 33, .tmp 34] _ 42 #[] #[.agg (cT q), .agg (cV u)] #[.agg (cT q), .agg (cV u)] rfl rfl (map2 (eval_tmp ((hin 3 33 rfl).trans (congrArg some (show uu 3 = .agg (cT q) from hd 3 (by decide) (by kernel_rfl))))) (eval_tmp ((hin 4 34 rfl).trans (congrArg some (show uu 4 = .agg (cV u) from hd 4 (by decide) (by kernel_rfl)))))) (by kernel_rfl) (fun _ _ => by kernel_rfl) (tApp_any q u ww) (fun _ hB => (hK _ _ (hJ.later hB) rfl (veL_later hB)))⟩
  ·
   exact .inr ⟨rfl, fun K' hK => wp_callv (.func 25) #[.tmp 32, .tmp 35] _ 25 #[] #[.agg (cV (appT r u)), .agg (cV (appT q u))] #[.agg (cV (appT r u)), .agg (cV (appT q u))] rfl rfl (map2 (eval_tmp ((hin 2 32 rfl).trans (congrArg some (show uu 2 = .agg (cV (appT r u)) from hd 2 (by decide) (by kernel_rfl))))) (eval_tmp ((hin 5 35 rfl).trans (congrArg some (show uu 5 = .agg (cV (appT q u)) from hd 5 (by decide) (by kernel_rfl)))))) (by kernel_rfl) (fun _ _ => by kernel_rfl) (Hb.out ww) (fun _ hB => (hK _ _ (hJ.later hB) rfl (veL_later hB)))⟩
  ·
   exact .inr ⟨rfl, fun K' hK => wp_asgn (.tmp 36) rfl (eval_tmp ((hin 6 36 rfl).trans (congrArg some (show uu 6 = .bool b from hd 6 (by decide) (by kernel_rfl))))) (hK _ _ hJ rfl veL_same)⟩
 clear hM
 intro uu W10 hJm hd
 have e_0 : uu 0 = .agg (cT r) := hd 0 (by decide)
 have e_1 : uu 1 = .agg (cV u) := hd 1 (by decide)
 have e_2 : uu 2 = .agg (cV (appT r u)) := hd 2 (by decide)
 have e_3 : uu 3 = .agg (cT q) := hd 3 (by decide)
 have e_4 : uu 4 = .agg (cV u) := hd 4 (by decide)
 have e_5 : uu 5 = .agg (cV (appT q u)) := hd 5 (by decide)
 have e_6 : uu 6 = .bool b := hd 6 (by decide)
 have e_7 : uu 7 = .bool b := hd 7 (by decide)
 clear hd
 simp only [layS, Act.put, List.setIfInBounds_toArray, List.set_cons_succ, List.set_cons_zero, Nat.zero_add, Nat.reduceAdd, List.drop_succ_cons, List.drop_zero, List.drop_nil, e_0, e_1, e_2, e_3, e_4, e_5, e_6, e_7]
 clear e_0 e_1 e_2 e_3 e_4 e_5 e_6 e_7
 have hJ10 := hJm.es
 clear hJm
 go_wp2
 obtain ⟨m6_10, hm⟩ : ∃ m, m = W10.heap.size := ⟨_, rfl⟩
 have hM := hJ10.em
 rw [← hm] at hM
 clear hm hJ10
 refine wp_region_z 8 [some 37, some 38, some 39, some 40, some 41, some 42, some 43, some 16] (veL m6_10 [.eq (.agg (cT r)), .eq (.agg (cT r)), .eq (.agg (cT (mulT r r))), .eq (.agg (cT q)), .eq (.agg (cT q)), .eq (.agg (cT (mulT q q))), .eq (.bool c), .eq (.bool c)]) (Em w m6_10 [(bk5, (cV u), 25), (bk4, (cT q), 50), (bk3, (cT r), 50), (bk2, (cV x), 25), (bk1, (cV v), 25)]) (by kernel_rfl) (by kernel_rfl) (by rfl) (by decide) (by rfl) hM ?_ ?_
 ·
  intro i hl hi uu ww aa hJ hd hev hin
  clear hM
  obtain rfl | rfl | rfl | rfl | rfl | rfl | rfl | rfl : i = 0 ∨ i = 1 ∨ i = 2 ∨ i = 3 ∨ i = 4 ∨ i = 5 ∨ i = 6 ∨ i = 7 := by omega
  ·
   exact .inr ⟨rfl, fun K' hK => wp_load 50 (.tmp 7) rfl bk3 0 27 (cT r) (cT r) 50 (hJ.es.at' _ (List.mem_of_getElem? (i := 2) rfl)) (eval_tmp ((hev 7 (by decide)).trans rfl)) ag50 sz50 (Nat.le_of_ble_eq_true (by kernel_rfl)) (by kernel_rfl) (hK _ _ hJ rfl veL_same)⟩
  ·
   exact .inr ⟨rfl, fun K' hK => wp_load 50 (.tmp 7) rfl bk3 0 27 (cT r) (cT r) 50 (hJ.es.at' _ (List.mem_of_getElem? (i := 2) rfl)) (eval_tmp ((hev 7 (by decide)).trans rfl)) ag50 sz50 (Nat.le_of_ble_eq_true (by kernel_rfl)) (by kernel_rfl) (hK _ _ hJ rfl veL_same)⟩
  ·
   exact .inr ⟨rfl, fun K' hK => wp_callv (.func 37) #[.tmp 37, .tmp 38] _ 37 #[] #[.agg (cT r), .agg (cT r)] #[.agg (cT r), .agg (cT r)] rfl rfl (map2 (eval_tmp ((hin 0 37 rfl).trans (congrArg some (show uu 0 = .agg (cT r) from hd 0 (by decide) (by kernel_rfl))))) (eval_tmp ((hin 1 38 rfl).trans (congrArg some (show uu 1 = .agg (cT r) from hd 1 (by decide) (by kernel_rfl)))))) (by kernel_rfl) (fun _ _ => by kernel_rfl) (tMul_any r r ww) (fun _ hB => (hK _ _ (hJ.later hB) rfl (veL_later hB)))⟩
  ·
   exact .inr ⟨rfl, fun K' hK => wp_load 50 (.tmp 8) rfl bk4 0 27 (cT q) (cT q) 50 (hJ.es.at' _ (List.mem_of_getElem? (i := 1) rfl)) (eval_tmp ((hev 8 (by decide)).trans rfl)) ag50 sz50 (Nat.le_of_ble_eq_true (by kernel_rfl)) (by kernel_rfl) (hK _ _ hJ rfl veL_same)⟩
  ·
   exact .inr ⟨rfl, fun K' hK => wp_load 50 (.tmp 8) rfl bk4 0 27 (cT q) (cT q) 50 (hJ.es.at' _ (List.mem_of_getElem? (i := 1) rfl)) (eval_tmp ((hev 8 (by decide)).trans rfl)) ag50 sz50 (Nat.le_of_ble_eq_true (by kernel_rfl)) (by kernel_rfl) (hK _ _ hJ rfl veL_same)⟩
  ·
   exact .inr ⟨rfl, fun K' hK => wp_callv (.func 37) #[.tmp 40, .tmp 41] _ 37 #[] #[.agg (cT q), .agg (cT q)] #[.agg (cT q), .agg (cT q)] rfl rfl (map2 (eval_tmp ((hin 3 40 rfl).trans (congrArg some (show uu 3 = .agg (cT q) from hd 3 (by decide) (by kernel_rfl))))) (eval_tmp ((hin 4 41 rfl).trans (congrArg some (show uu 4 = .agg (cT q) from hd 4 (by decide) (by kernel_rfl)))))) (by kernel_rfl) (fun _ _ => by kernel_rfl) (tMul_any q q ww) (fun _ hB => (hK _ _ (hJ.later hB) rfl (veL_later hB)))⟩
  ·
   exact .inr ⟨rfl, fun K' hK => wp_callv (.func 36) #[.tmp 39, .tmp 42] _ 36 #[] #[.agg (cT (mulT r r)), .agg (cT (mulT q q))] #[.agg (cT (mulT r r)), .agg (cT (mulT q q))] rfl rfl (map2 (eval_tmp ((hin 2 39 rfl).trans (congrArg some (show uu 2 = .agg (cT (mulT r r)) from hd 2 (by decide) (by kernel_rfl))))) (eval_tmp ((hin 5 42 rfl).trans (congrArg some (show uu 5 = .agg (cT (mulT q q)) from hd 5 (by decide) (by kernel_rfl)))))) (by kernel_rfl) (fun _ _ => by kernel_rfl) (Hc.out ww) (fun _ hB => (hK _ _ (hJ.later hB) rfl (veL_later hB)))⟩
  ·
   exact .inr ⟨rfl, fun K' hK => wp_asgn (.tmp 43) rfl (eval_tmp ((hin 6 43 rfl).trans (congrArg some (show uu 6 = .bool c from hd 6 (by decide) (by kernel_rfl))))) (hK _ _ hJ rfl veL_same)⟩
 clear hM
 intro uu W11 hJm hd
 have e_0 : uu 0 = .agg (cT r) := hd 0 (by decide)
 have e_1 : uu 1 = .agg (cT r) := hd 1 (by decide)
 have e_2 : uu 2 = .agg (cT (mulT r r)) := hd 2 (by decide)
 have e_3 : uu 3 = .agg (cT q) := hd 3 (by decide)
 have e_4 : uu 4 = .agg (cT q) := hd 4 (by decide)
 have e_5 : uu 5 = .agg (cT (mulT q q)) := hd 5 (by decide)
 have e_6 : uu 6 = .bool c := hd 6 (by decide)
 have e_7 : uu 7 = .bool c := hd 7 (by decide)
 clear hd
 simp only [layS, Act.put, List.setIfInBounds_toArray, List.set_cons_succ, List.set_cons_zero, Nat.zero_add, Nat.reduceAdd, List.drop_succ_cons, List.drop_zero, List.drop_nil, e_0, e_1, e_2, e_3, e_4, e_5, e_6, e_7]
 clear e_0 e_1 e_2 e_3 e_4 e_5 e_6 e_7
 have hJ11 := hJm.es
 clear hJm
 go_wp2
 obtain ⟨m7_11, hm⟩ : ∃ m, m = W11.heap.size := ⟨_, rfl⟩
 have hM := hJ11.em
 rw [← hm] at hM
 clear hm hJ11
 refine wp_region_z 6 [some 44, some 45, some 46, some 47, some 48, some 17] (veL m7_11 [.eq (.agg (cT r)), .eq (.agg (cS (detT r))), .eq (.agg (cT q)), .eq (.agg (cS (detT q))), .eq (.bool d), .eq (.bool d)]) (Em w m7_11 [(bk5, (cV u), 25), (bk4, (cT q), 50), (bk3, (cT r), 50), (bk2, (cV x), 25), (bk1, (cV v), 25)]) (by kernel_rfl) (by kernel_rfl) (by rfl) (by decide) (by rfl) hM ?_ ?_
 ·
  intro i hl hi uu ww aa hJ hd hev hin
  clear hM
  obtain rfl | rfl | rfl | rfl | rfl | rfl : i = 0 ∨ i = 1 ∨ i = 2 ∨ i = 3 ∨ i = 4 ∨ i = 5 := by omega
  ·
   exact .inr ⟨rfl, fun K' hK => wp_load 50 (.tmp 7) rfl bk3 0 27 (cT r) (cT r) 50 (hJ.es.at' _ (List.mem_of_getElem? (i := 2) rfl)) (eval_tmp ((hev 7 (by decide)).trans rfl)) ag50 sz50 (Nat.le_of_ble_eq_true (by kernel_rfl)) (by kernel_rfl) (hK _ _ hJ rfl veL_same)⟩
  ·
   exact .inr ⟨rfl, fun K' hK => wp_callv (.func 39) #[.tmp 44] _ 39 #[] #[.agg (cT r)] #[.agg (cT r)] rfl rfl (map1 (eval_tmp ((hin 0 44 rfl).trans (congrArg some (show uu 0 = .agg (cT r) from hd 0 (by decide) (by kernel_rfl)))))) (by kernel_rfl) (fun _ _ => by kernel_rfl) (tDet_any r ww) (fun _ hB => (hK _ _ (hJ.later hB) rfl (veL_later hB)))⟩
  ·
   exact .inr ⟨rfl, fun K' hK => wp_load 50 (.tmp 8) rfl bk4 0 27 (cT q) (cT q) 50 (hJ.es.at' _ (List.mem_of_getElem? (i := 1) rfl)) (eval_tmp ((hev 8 (by decide)).trans rfl)) ag50 sz50 (Nat.le_of_ble_eq_true (by kernel_rfl)) (by kernel_rfl) (hK _ _ hJ rfl veL_same)⟩
  ·
   exact .inr ⟨rfl, fun K' hK => wp_callv (.func 39) #[.tmp 46] _ 39 #[] #[.agg (cT q)] #[.agg (cT q)] rfl rfl (map1 (eval_tmp ((hin 2 46 rfl).trans (congrArg some (show uu 2 = .agg (cT q) from hd 2 (by decide) (by kernel_rfl)))))) (by kernel_rfl) (fun _ _ => by kernel_rfl) (tDet_any q ww) (fun _ hB => (hK _ _ (hJ.later hB) rfl (veL_later hB)))⟩
  ·
   exact .inr ⟨rfl, fun K' hK => wp_callv (.func 44) #[.tmp 45, .tmp 47] _ 44 #[] #[.agg (cS (detT r)), .agg (cS (detT q))] #[.agg (cS (detT r)), .agg (cS (detT q))] rfl rfl (map2 (eval_tmp ((hin 1 45 rfl).trans (congrArg some (show uu 1 = .agg (cS (detT r)) from hd 1 (by decide) (by kernel_rfl))))) (eval_tmp ((hin 3 47 rfl).trans (congrArg some (show uu 3 = .agg (cS (detT q)) from hd 3 (by decide) (by kernel_rfl)))))) (by kernel_rfl) (fun _ _ => by kernel_rfl) (Hd.out ww) (fun _ hB => (hK _ _ (hJ.later hB) rfl (veL_later hB)))⟩
  ·
   exact .inr ⟨rfl, fun K' hK => wp_asgn (.tmp 48) rfl (eval_tmp ((hin 4 48 rfl).trans (congrArg some (show uu 4 = .bool d from hd 4 (by decide) (by kernel_rfl))))) (hK _ _ hJ rfl veL_same)⟩
 clear hM
 intro uu W12 hJm hd
 have e_0 : uu 0 = .agg (cT r) := hd 0 (by decide)
 have e_1 : uu 1 = .agg (cS (detT r)) := hd 1 (by decide)
 have e_2 : uu 2 = .agg (cT q) := hd 2 (by decide)
 have e_3 : uu 3 = .agg (cS (detT q)) := hd 3 (by decide)
 have e_4 : uu 4 = .bool d := hd 4 (by decide)
 have e_5 : uu 5 = .bool d := hd 5 (by decide)
 clear hd
 simp only [layS, Act.put, List.setIfInBounds_toArray, List.set_cons_succ, List.set_cons_zero, Nat.zero_add, Nat.reduceAdd, List.drop_succ_cons, List.drop_zero, List.drop_nil, e_0, e_1, e_2, e_3, e_4, e_5]
 clear e_0 e_1 e_2 e_3 e_4 e_5
 have hJ12 := hJm.es
 clear hJm
 go_wp2
 go_ret
 exact ⟨rfl, hJ12.below⟩
set_option maxRecDepth 100000 in
set_option maxHeartbeats 12800000 in
theorem rn_01 (v x u : Vc) (r q : Tu) (a : Bool) (hHp : ∀ W : World, Calls Try.prog 25 #[.agg (cV v), .agg (cV x)] W (PVal (.bool false) W)) (hHs : ∀ W : World, Calls Try.prog 36 #[.agg (cT r), .agg (cT q)] W (PVal (.bool true) W)) (hHa : ∀ W : World, Calls Try.prog 36 #[.agg (cT (expT v)), .agg (cT (expT x))] W (PVal (.bool a) W)) (hHb : ∀ W : World, Calls Try.prog 25 #[.agg (cV (appT r u)), .agg (cV (appT q u))] W (PVal (.bool true) W)) (hHc : ∀ W : World, Calls Try.prog 36 #[.agg (cT (mulT r r)), .agg (cT (mulT q q))] W (PVal (.bool true) W)) (hHd : ∀ W : World, Calls Try.prog 44 #[.agg (cS (detT r)), .agg (cS (detT q))] W (PVal (.bool true) W)) (w : World)   : Calls Try.prog 8 #[.agg (cV v), .agg (cV x), .agg (cT r), .agg (cT q), .agg (cV u)] w (PVal (.bool true) w) := by
 have Hp := Lib.hid hHp
 have Hs := Lib.hid hHs
 have Ha := Lib.hid hHa
 have Hb := Lib.hid hHb
 have Hc := Lib.hid hHc
 have Hd := Lib.hid hHd
 clear hHp hHs hHa hHb hHc hHd
 have hJ0 := es_nil w
 go_enter Try.func8, Try.ntmps8
 go_wp2_with (refine stop_box 25 (.tmp 0) (cV v) rfl rfl rfl hJ0 (fun bk1 W1 hJ1 => ?_))
 clear hJ0
 unfold Stop
 try simp only [Act.put, List.setIfInBounds_toArray, List.set_cons_succ, List.set_cons_zero]
 go_wp2_with (refine stop_box 25 (.tmp 1) (cV x) rfl rfl rfl hJ1 (fun bk2 W2 hJ2 => ?_))
 clear hJ1
 unfold Stop
 try simp only [Act.put, List.setIfInBounds_toArray, List.set_cons_succ, List.set_cons_zero]
 go_wp2_with (refine stop_box 50 (.tmp 2) (cT r) rfl rfl rfl hJ2 (fun bk3 W3 hJ3 => ?_))
 clear hJ2
 unfold Stop
 try simp only [Act.put, List.setIfInBounds_toArray, List.set_cons_succ, List.set_cons_zero]
 go_wp2_with (refine stop_box 50 (.tmp 3) (cT q) rfl rfl rfl hJ3 (fun bk4 W4 hJ4 => ?_))
 clear hJ3
 unfold Stop
 try simp only [Act.put, List.setIfInBounds_toArray, List.set_cons_succ, List.set_cons_zero]
 go_wp2_with (refine stop_box 25 (.tmp 4) (cV u) rfl rfl rfl hJ4 (fun bk5 W5 hJ5 => ?_))
 clear hJ4
 unfold Stop
 try simp only [Act.put, List.setIfInBounds_toArray, List.set_cons_succ, List.set_cons_zero]
 go_wp2_with fail
 refine (rawake_any W5).mono ?_
 rintro zz W6 ⟨rfl, hB⟩
 have hJ6 := hJ5.later hB
 clear hB
 clear hJ5
 go_wp2_with (refine stop_op rfl (fun K hK => wp_load 25 (.tmp 5) rfl bk1 0 9 (cV v) (cV v) 25 (hJ6.at' _ (List.mem_of_getElem? (i := 4) rfl)) rfl ag25 sz25 (Nat.le_of_ble_eq_true (by kernel_rfl)) (by kernel_rfl) (hK _ _ ?_)))
 unfold Stop
 try simp only [Act.put, List.setIfInBounds_toArray, List.set_cons_succ, List.set_cons_zero]
 go_wp2_with (refine stop_op rfl (fun K hK => wp_load 25 (.tmp 6) rfl bk2 0 9 (cV x) (cV x) 25 (hJ6.at' _ (List.mem_of_getElem? (i := 3) rfl)) rfl ag25 sz25 (Nat.le_of_ble_eq_true (by kernel_rfl)) (by kernel_rfl) (hK _ _ ?_)))
 unfold Stop
 try simp only [Act.put, List.setIfInBounds_toArray, List.set_cons_succ, List.set_cons_zero]
 go_wp2_with fail
 refine (Hp.out _).mono ?_
 rintro zz W7 ⟨rfl, hB⟩
 have hJ7 := hJ6.later hB
 clear hB
 clear hJ6
 go_wp2_with (refine stop_op rfl (fun K hK => wp_load 50 (.tmp 7) rfl bk3 0 27 (cT r) (cT r) 50 (hJ7.at' _ (List.mem_of_getElem? (i := 2) rfl)) rfl ag50 sz50 (Nat.le_of_ble_eq_true (by kernel_rfl)) (by kernel_rfl) (hK _ _ ?_)))
 unfold Stop
 try simp only [Act.put, List.setIfInBounds_toArray, List.set_cons_succ, List.set_cons_zero]
 go_wp2_with (refine stop_op rfl (fun K hK => wp_load 50 (.tmp 8) rfl bk4 0 27 (cT q) (cT q) 50 (hJ7.at' _ (List.mem_of_getElem? (i := 1) rfl)) rfl ag50 sz50 (Nat.le_of_ble_eq_true (by kernel_rfl)) (by kernel_rfl) (hK _ _ ?_)))
 unfold Stop
 try simp only [Act.put, List.setIfInBounds_toArray, List.set_cons_succ, List.set_cons_zero]
 go_wp2_with fail
 refine (Hs.out _).mono ?_
 rintro zz W8 ⟨rfl, hB⟩
 have hJ8 := hJ7.later hB
 clear hB
 clear hJ7
 go_wp2
 obtain ⟨m4_8, hm⟩ : ∃ m, m = W8.heap.size := ⟨_, rfl⟩
 have hM := hJ8.em
 rw [← hm] at hM
 clear hm hJ8
 refine wp_region_z 6 [some 25, some 26, some 27, some 28, some 29, some 14] (veL m4_8 [.eq (.agg (cV v)), .eq (.agg (cT (expT v))), .eq (.agg (cV x)), .eq (.agg (cT (expT x))), .eq (.bool a), .eq (.bool a)]) (Em w m4_8 [(bk5, (cV u), 25), (bk4, (cT q), 50), (bk3, (cT r), 50), (bk2, (cV x), 25), (bk1, (cV v), 25)]) (by kernel_rfl) (by kernel_rfl) (by rfl) (by decide) (by rfl) hM ?_ ?_
 ·
  intro i hl hi uu ww aa hJ hd hev hin
  clear hM
  obtain rfl | rfl | rfl | rfl | rfl | rfl : i = 0 ∨ i = 1 ∨ i = 2 ∨ i = 3 ∨ i = 4 ∨ i = 5 := by omega
  ·
   exact .inr ⟨rfl, fun K' hK => wp_load 25 (.tmp 5) rfl bk1 0 9 (cV v) (cV v) 25 (hJ.es.at' _ (List.mem_of_getElem? (i := 4) rfl)) (eval_tmp ((hev 5 (by decide)).trans rfl)) ag25 sz25 (Nat.le_of_ble_eq_true (by kernel_rfl)) (by kernel_rfl) (hK _ _ hJ rfl veL_same)⟩
  ·
   exact .inr ⟨rfl, fun K' hK => wp_callv (.func 34) #[.tmp 25] _ 34 #[] #[.agg (cV v)] #[.agg (cV v)] rfl rfl (map1 (eval_tmp ((hin 0 25 rfl).trans (congrArg some (show uu 0 = .agg (cV v) from hd 0 (by decide) (by kernel_rfl)))))) (by kernel_rfl) (fun _ _ => by kernel_rfl) (tExp_any v ww) (fun _ hB => (hK _ _ (hJ.later hB) rfl (veL_later hB)))⟩
  ·
   exact .inr ⟨rfl, fun K' hK => wp_load 25 (.tmp 6) rfl bk2 0 9 (cV x) (cV x) 25 (hJ.es.at' _ (List.mem_of_getElem? (i := 3) rfl)) (eval_tmp ((hev 6 (by decide)).trans rfl)) ag25 sz25 (Nat.le_of_ble_eq_true (by kernel_rfl)) (by kernel_rfl) (hK _ _ hJ rfl veL_same)⟩
  ·
   exact .inr ⟨rfl, fun K' hK => wp_callv (.func 34) #[.tmp 27] _ 34 #[] #[.agg (cV x)] #[.agg (cV x)] rfl rfl (map1 (eval_tmp ((hin 2 27 rfl).trans (congrArg some (show uu 2 = .agg (cV x) from hd 2 (by decide) (by kernel_rfl)))))) (by kernel_rfl) (fun _ _ => by kernel_rfl) (tExp_any x ww) (fun _ hB => (hK _ _ (hJ.later hB) rfl (veL_later hB)))⟩
  ·
   exact .inr ⟨rfl, fun K' hK => wp_callv (.func 36) #[.tmp 26, .tmp 28] _ 36 #[] #[.agg (cT (expT v)), .agg (cT (expT x))] #[.agg (cT (expT v)), .agg (cT (expT x))] rfl rfl (map2 (eval_tmp ((hin 1 26 rfl).trans (congrArg some (show uu 1 = .agg (cT (expT v)) from hd 1 (by decide) (by kernel_rfl))))) (eval_tmp ((hin 3 28 rfl).trans (congrArg some (show uu 3 = .agg (cT (expT x)) from hd 3 (by decide) (by kernel_rfl)))))) (by kernel_rfl) (fun _ _ => by kernel_rfl) (Ha.out ww) (fun _ hB => (hK _ _ (hJ.later hB) rfl (veL_later hB)))⟩
  ·
   exact .inr ⟨rfl, fun K' hK => wp_asgn (.tmp 29) rfl (eval_tmp ((hin 4 29 rfl).trans (congrArg some (show uu 4 = .bool a from hd 4 (by decide) (by kernel_rfl))))) (hK _ _ hJ rfl veL_same)⟩
 clear hM
 intro uu W9 hJm hd
 have e_0 : uu 0 = .agg (cV v) := hd 0 (by decide)
 have e_1 : uu 1 = .agg (cT (expT v)) := hd 1 (by decide)
 have e_2 : uu 2 = .agg (cV x) := hd 2 (by decide)
 have e_3 : uu 3 = .agg (cT (expT x)) := hd 3 (by decide)
 have e_4 : uu 4 = .bool a := hd 4 (by decide)
 have e_5 : uu 5 = .bool a := hd 5 (by decide)
 clear hd
 simp only [layS, Act.put, List.setIfInBounds_toArray, List.set_cons_succ, List.set_cons_zero, Nat.zero_add, Nat.reduceAdd, List.drop_succ_cons, List.drop_zero, List.drop_nil, e_0, e_1, e_2, e_3, e_4, e_5]
 clear e_0 e_1 e_2 e_3 e_4 e_5
 have hJ9 := hJm.es
 clear hJm
 go_wp2
 obtain ⟨m5_9, hm⟩ : ∃ m, m = W9.heap.size := ⟨_, rfl⟩
 have hM := hJ9.em
 rw [← hm] at hM
 clear hm hJ9
 refine wp_region_z 8 [some 30, some 31, some 32, some 33, some 34, some 35, some 36, some 15] (veL m5_9 [.eq (.agg (cT r)), .eq (.agg (cV u)), .eq (.agg (cV (appT r u))), .eq (.agg (cT q)), .eq (.agg (cV u)), .eq (.agg (cV (appT q u))), .eq (.bool true), .eq (.bool true)]) (Em w m5_9 [(bk5, (cV u), 25), (bk4, (cT q), 50), (bk3, (cT r), 50), (bk2, (cV x), 25), (bk1, (cV v), 25)]) (by kernel_rfl) (by kernel_rfl) (by rfl) (by decide) (by rfl) hM ?_ ?_
 ·
  intro i hl hi uu ww aa hJ hd hev hin
  clear hM
  obtain rfl | rfl | rfl | rfl | rfl | rfl | rfl | rfl : i = 0 ∨ i = 1 ∨ i = 2 ∨ i = 3 ∨ i = 4 ∨ i = 5 ∨ i = 6 ∨ i = 7 := by omega
  ·
   exact .inr ⟨rfl, fun K' hK => wp_load 50 (.tmp 7) rfl bk3 0 27 (cT r) (cT r) 50 (hJ.es.at' _ (List.mem_of_getElem? (i := 2) rfl)) (eval_tmp ((hev 7 (by decide)).trans rfl)) ag50 sz50 (Nat.le_of_ble_eq_true (by kernel_rfl)) (by kernel_rfl) (hK _ _ hJ rfl veL_same)⟩
  ·
   exact .inr ⟨rfl, fun K' hK => wp_load 25 (.tmp 9) rfl bk5 0 9 (cV u) (cV u) 25 (hJ.es.at' _ (List.mem_of_getElem? (i := 0) rfl)) (eval_tmp ((hev 9 (by decide)).trans rfl)) ag25 sz25 (Nat.le_of_ble_eq_true (by kernel_rfl)) (by kernel_rfl) (hK _ _ hJ rfl veL_same)⟩
  ·
   exact .inr ⟨rfl, fun K' hK => wp_callv (.func 42) #[.tmp 30, .tmp 31] _ 42 #[] #[.agg (cT r), .agg (cV u)] #[.agg (cT r), .agg (cV u)] rfl rfl (map2 (eval_tmp ((hin 0 30 rfl).trans (congrArg some (show uu 0 = .agg (cT r) from hd 0 (by decide) (by kernel_rfl))))) (eval_tmp ((hin 1 31 rfl).trans (congrArg some (show uu 1 = .agg (cV u) from hd 1 (by decide) (by kernel_rfl)))))) (by kernel_rfl) (fun _ _ => by kernel_rfl) (tApp_any r u ww) (fun _ hB => (hK _ _ (hJ.later hB) rfl (veL_later hB)))⟩
  ·
   exact .inr ⟨rfl, fun K' hK => wp_load 50 (.tmp 8) rfl bk4 0 27 (cT q) (cT q) 50 (hJ.es.at' _ (List.mem_of_getElem? (i := 1) rfl)) (eval_tmp ((hev 8 (by decide)).trans rfl)) ag50 sz50 (Nat.le_of_ble_eq_true (by kernel_rfl)) (by kernel_rfl) (hK _ _ hJ rfl veL_same)⟩
  ·
   exact .inr ⟨rfl, fun K' hK => wp_load 25 (.tmp 9) rfl bk5 0 9 (cV u) (cV u) 25 (hJ.es.at' _ (List.mem_of_getElem? (i := 0) rfl)) (eval_tmp ((hev 9 (by decide)).trans rfl)) ag25 sz25 (Nat.le_of_ble_eq_true (by kernel_rfl)) (by kernel_rfl) (hK _ _ hJ rfl veL_same)⟩
  ·
   exact .inr ⟨rfl, fun K' hK => wp_callv (.func 42) #[.tmp 33, .tmp 34] _ 42 #[] #[.agg (cT q), .agg (cV u)] #[.agg (cT q), .agg (cV u)] rfl rfl (map2 (eval_tmp ((hin 3 33 rfl).trans (congrArg some (show uu 3 = .agg (cT q) from hd 3 (by decide) (by kernel_rfl))))) (eval_tmp ((hin 4 34 rfl).trans (congrArg some (show uu 4 = .agg (cV u) from hd 4 (by decide) (by kernel_rfl)))))) (by kernel_rfl) (fun _ _ => by kernel_rfl) (tApp_any q u ww) (fun _ hB => (hK _ _ (hJ.later hB) rfl (veL_later hB)))⟩
  ·
   exact .inr ⟨rfl, fun K' hK => wp_callv (.func 25) #[.tmp 32, .tmp 35] _ 25 #[] #[.agg (cV (appT r u)), .agg (cV (appT q u))] #[.agg (cV (appT r u)), .agg (cV (appT q u))] rfl rfl (map2 (eval_tmp ((hin 2 32 rfl).trans (congrArg some (show uu 2 = .agg (cV (appT r u)) from hd 2 (by decide) (by kernel_rfl))))) (eval_tmp ((hin 5 35 rfl).trans (congrArg some (show uu 5 = .agg (cV (appT q u)) from hd 5 (by decide) (by kernel_rfl)))))) (by kernel_rfl) (fun _ _ => by kernel_rfl) (Hb.out ww) (fun _ hB => (hK _ _ (hJ.later hB) rfl (veL_later hB)))⟩
  ·
   exact .inr ⟨rfl, fun K' hK => wp_asgn (.tmp 36) rfl (eval_tmp ((hin 6 36 rfl).trans (congrArg some (show uu 6 = .bool true from hd 6 (by decide) (by kernel_rfl))))) (hK _ _ hJ rfl veL_same)⟩
 clear hM
 intro uu W10 hJm hd
 have e_0 : uu 0 = .agg (cT r) := hd 0 (by decide)
 have e_1 : uu 1 = .agg (cV u) := hd 1 (by decide)
 have e_2 : uu 2 = .agg (cV (appT r u)) := hd 2 (by decide)
 have e_3 : uu 3 = .agg (cT q) := hd 3 (by decide)
 have e_4 : uu 4 = .agg (cV u) := hd 4 (by decide)
 have e_5 : uu 5 = .agg (cV (appT q u)) := hd 5 (by decide)
 have e_6 : uu 6 = .bool true := hd 6 (by decide)
 have e_7 : uu 7 = .bool true := hd 7 (by decide)
 clear hd
 simp only [layS, Act.put, List.setIfInBounds_toArray, List.set_cons_succ, List.set_cons_zero, Nat.zero_add, Nat.reduceAdd, List.drop_succ_cons, List.drop_zero, List.drop_nil, e_0, e_1, e_2, e_3, e_4, e_5, e_6, e_7]
 clear e_0 e_1 e_2 e_3 e_4 e_5 e_6 e_7
 have hJ10 := hJm.es
 clear hJm
 go_wp2
 obtain ⟨m6_10, hm⟩ : ∃ m, m = W10.heap.size := ⟨_, rfl⟩
 have hM := hJ10.em
 rw [← hm] at hM
 clear hm hJ10
 refine wp_region_z 8 [some 37, some 38, some 39, some 40, some 41, some 42, some 43, some 16] (veL m6_10 [.eq (.agg (cT r)), .eq (.agg (cT r)), .eq (.agg (cT (mulT r r))), .eq (.agg (cT q)), .eq (.agg (cT q)), .eq (.agg (cT (mulT q q))), .eq (.bool true), .eq (.bool true)]) (Em w m6_10 [(bk5, (cV u), 25), (bk4, (cT q), 50), (bk3, (cT r), 50), (bk2, (cV x), 25), (bk1, (cV v), 25)]) (by kernel_rfl) (by kernel_rfl) (by rfl) (by decide) (by rfl) hM ?_ ?_
 ·
  intro i hl hi uu ww aa hJ hd hev hin
  clear hM
  obtain rfl | rfl | rfl | rfl | rfl | rfl | rfl | rfl : i = 0 ∨ i = 1 ∨ i = 2 ∨ i = 3 ∨ i = 4 ∨ i = 5 ∨ i = 6 ∨ i = 7 := by omega
  ·
   exact .inr ⟨rfl, fun K' hK => wp_load 50 (.tmp 7) rfl bk3 0 27 (cT r) (cT r) 50 (hJ.es.at' _ (List.mem_of_getElem? (i := 2) rfl)) (eval_tmp ((hev 7 (by decide)).trans rfl)) ag50 sz50 (Nat.le_of_ble_eq_true (by kernel_rfl)) (by kernel_rfl) (hK _ _ hJ rfl veL_same)⟩
  ·
   exact .inr ⟨rfl, fun K' hK => wp_load 50 (.tmp 7) rfl bk3 0 27 (cT r) (cT r) 50 (hJ.es.at' _ (List.mem_of_getElem? (i := 2) rfl)) (eval_tmp ((hev 7 (by decide)).trans rfl)) ag50 sz50 (Nat.le_of_ble_eq_true (by kernel_rfl)) (by kernel_rfl) (hK _ _ hJ rfl veL_same)⟩
  ·
   exact .inr ⟨rfl, fun K' hK => wp_callv (.func 37) #[.tmp 37, .tmp 38] _ 37 #[] #[.agg (cT r), .agg (cT r)] #[.agg (cT r), .agg (cT r)] rfl rfl (map2 (eval_tmp ((hin 0 37 rfl).trans (congrArg some (show uu 0 = .agg (cT r) from hd 0 (by decide) (by kernel_rfl))))) (eval_tmp ((hin 1 38 rfl).trans (congrArg some (show uu 1 = .agg (cT r) from hd 1 (by decide) (by kernel_rfl)))))) (by kernel_rfl) (fun _ _ => by kernel_rfl) (tMul_any r r ww) (fun _ hB => (hK _ _ (hJ.later hB) rfl (veL_later hB)))⟩
  ·
   exact .inr ⟨rfl, fun K' hK => wp_load 50 (.tmp 8) rfl bk4 0 27 (cT q) (cT q) 50 (hJ.es.at' _ (List.mem_of_getElem? (i := 1) rfl)) (eval_tmp ((hev 8 (by decide)).trans rfl)) ag50 sz50 (Nat.le_of_ble_eq_true (by kernel_rfl)) (by kernel_rfl) (hK _ _ hJ rfl veL_same)⟩
  ·
   exact .inr ⟨rfl, fun K' hK => wp_load 50 (.tmp 8) rfl bk4 0 27 (cT q) (cT q) 50 (hJ.es.at' _ (List.mem_of_getElem? (i := 1) rfl)) (eval_tmp ((hev 8 (by decide)).trans rfl)) ag50 sz50 (Nat.le_of_ble_eq_true (by kernel_rfl)) (by kernel_rfl) (hK _ _ hJ rfl veL_same)⟩
  ·
   exact .inr ⟨rfl, fun K' hK => wp_callv (.func 37) #[.tmp 40, .tmp 41] _ 37 #[] #[.agg (cT q), .agg (cT q)] #[.agg (cT q), .agg (cT q)] rfl rfl (map2 (eval_tmp ((hin 3 40 rfl).trans (congrArg some (show uu 3 = .agg (cT q) from hd 3 (by decide) (by kernel_rfl))))) (eval_tmp ((hin 4 41 rfl).trans (congrArg some (show uu 4 = .agg (cT q) from hd 4 (by decide) (by kernel_rfl)))))) (by kernel_rfl) (fun _ _ => by kernel_rfl) (tMul_any q q ww) (fun _ hB => (hK _ _ (hJ.later hB) rfl (veL_later hB)))⟩
  ·
   exact .inr ⟨rfl, fun K' hK => wp_callv (.func 36) #[.tmp 39, .tmp 42] _ 36 #[] #[.agg (cT (mulT r r)), .agg (cT (mulT q q))] #[.agg (cT (mulT r r)), .agg (cT (mulT q q))] rfl rfl (map2 (eval_tmp ((hin 2 39 rfl).trans (congrArg some (show uu 2 = .agg (cT (mulT r r)) from hd 2 (by decide) (by kernel_rfl))))) (eval_tmp ((hin 5 42 rfl).trans (congrArg some (show uu 5 = .agg (cT (mulT q q)) from hd 5 (by decide) (by kernel_rfl)))))) (by kernel_rfl) (fun _ _ => by kernel_rfl) (Hc.out ww) (fun _ hB => (hK _ _ (hJ.later hB) rfl (veL_later hB)))⟩
  ·
   exact .inr ⟨rfl, fun K' hK => wp_asgn (.tmp 43) rfl (eval_tmp ((hin 6 43 rfl).trans (congrArg some (show uu 6 = .bool true from hd 6 (by decide) (by kernel_rfl))))) (hK _ _ hJ rfl veL_same)⟩
 clear hM
 intro uu W11 hJm hd
 have e_0 : uu 0 = .agg (cT r) := hd 0 (by decide)
 have e_1 : uu 1 = .agg (cT r) := hd 1 (by decide)
 have e_2 : uu 2 = .agg (cT (mulT r r)) := hd 2 (by decide)
 have e_3 : uu 3 = .agg (cT q) := hd 3 (by decide)
 have e_4 : uu 4 = .agg (cT q) := hd 4 (by decide)
 have e_5 : uu 5 = .agg (cT (mulT q q)) := hd 5 (by decide)
 have e_6 : uu 6 = .bool true := hd 6 (by decide)
 have e_7 : uu 7 = .bool true := hd 7 (by decide)
 clear hd
 simp only [layS, Act.put, List.setIfInBounds_toArray, List.set_cons_succ, List.set_cons_zero, Nat.zero_add, Nat.reduceAdd, List.drop_succ_cons, List.drop_zero, List.drop_nil, e_0, e_1, e_2, e_3, e_4, e_5, e_6, e_7]
 clear e_0 e_1 e_2 e_3 e_4 e_5 e_6 e_7
 have hJ11 := hJm.es
 clear hJm
 go_wp2
 obtain ⟨m7_11, hm⟩ : ∃ m, m = W11.heap.size := ⟨_, rfl⟩
 have hM := hJ11.em
 rw [← hm] at hM
 clear hm hJ11
 refine wp_region_z 6 [some 44, some 45, some 46, some 47, some 48, some 17] (veL m7_11 [.eq (.agg (cT r)), .eq (.agg (cS (detT r))), .eq (.agg (cT q)), .eq (.agg (cS (detT q))), .eq (.bool true), .eq (.bool true)]) (Em w m7_11 [(bk5, (cV u), 25), (bk4, (cT q), 50), (bk3, (cT r), 50), (bk2, (cV x), 25), (bk1, (cV v), 25)]) (by kernel_rfl) (by kernel_rfl) (by rfl) (by decide) (by rfl) hM ?_ ?_
 ·
  intro i hl hi uu ww aa hJ hd hev hin
  clear hM
  obtain rfl | rfl | rfl | rfl | rfl | rfl : i = 0 ∨ i = 1 ∨ i = 2 ∨ i = 3 ∨ i = 4 ∨ i = 5 := by omega
  ·
   exact .inr ⟨rfl, fun K' hK => wp_load 50 (.tmp 7) rfl bk3 0 27 (cT r) (cT r) 50 (hJ.es.at' _ (List.mem_of_getElem? (i := 2) rfl)) (eval_tmp ((hev 7 (by decide)).trans rfl)) ag50 sz50 (Nat.le_of_ble_eq_true (by kernel_rfl)) (by kernel_rfl) (hK _ _ hJ rfl veL_same)⟩
  ·
   exact .inr ⟨rfl, fun K' hK => wp_callv (.func 39) #[.tmp 44] _ 39 #[] #[.agg (cT r)] #[.agg (cT r)] rfl rfl (map1 (eval_tmp ((hin 0 44 rfl).trans (congrArg some (show uu 0 = .agg (cT r) from hd 0 (by decide) (by kernel_rfl)))))) (by kernel_rfl) (fun _ _ => by kernel_rfl) (tDet_any r ww) (fun _ hB => (hK _ _ (hJ.later hB) rfl (veL_later hB)))⟩
  ·
   exact .inr ⟨rfl, fun K' hK => wp_load 50 (.tmp 8) rfl bk4 0 27 (cT q) (cT q) 50 (hJ.es.at' _ (List.mem_of_getElem? (i := 1) rfl)) (eval_tmp ((hev 8 (by decide)).trans rfl)) ag50 sz50 (Nat.le_of_ble_eq_true (by kernel_rfl)) (by kernel_rfl) (hK _ _ hJ rfl veL_same)⟩
  ·
   exact .inr ⟨rfl, fun K' hK => wp_callv (.func 39) #[.tmp 46] _ 39 #[] #[.agg (cT q)] #[.agg (cT q)] rfl rfl (map1 (eval_tmp ((hin 2 46 rfl).trans (congrArg some (show uu 2 = .agg (cT q) from hd 2 (by decide) (by kernel_rfl)))))) (by kernel_rfl) (fun _ _ => by kernel_rfl) (tDet_any q ww) (fun _ hB => (hK _ _ (hJ.later hB) rfl (veL_later hB)))⟩
  ·
   exact .inr ⟨rfl, fun K' hK => wp_callv (.func 44) #[.tmp 45, .tmp 47] _ 44 #[] #[.agg (cS (detT r)), .agg (cS (detT q))] #[.agg (cS (detT r)), .agg (cS (detT q))] rfl rfl (map2 (eval_tmp ((hin 1 45 rfl).trans (congrArg some (show uu 1 = .agg (cS (detT r)) from hd 1 (by decide) (by kernel_rfl))))) (eval_tmp ((hin 3 47 rfl).trans (congrArg some (show uu 3 = .agg (cS (detT q)) from hd 3 (by decide) (by kernel_rfl)))))) (by kernel_rfl) (fun _ _ => by kernel_rfl) (Hd.out ww) (fun _ hB => (hK _ _ (hJ.later hB) rfl (veL_later hB)))⟩
  ·
   exact .inr ⟨rfl, fun K' hK => wp_asgn (.tmp 48) rfl (eval_tmp ((hin 4 48 rfl).trans (congrArg some (show uu 4 = .bool true from hd 4 (by decide) (by kernel_rfl))))) (hK _ _ hJ rfl veL_same)⟩
 clear hM
 intro uu W12 hJm hd
 have e_0 : uu 0 = .agg (cT r) := hd 0 (by decide)
 have e_1 : uu 1 = .agg (cS (detT r)) := hd 1 (by decide)
 have e_2 : uu 2 = .agg (cT q) := hd 2 (by decide)
 have e_3 : uu 3 = .agg (cS (detT q)) := hd 3 (by decide)
 have e_4 : uu 4 = .bool true := hd 4 (by decide)
 have e_5 : uu 5 = .bool true := hd 5 (by decide)
 clear hd
 simp only [layS, Act.put, List.setIfInBounds_toArray, List.set_cons_succ, List.set_cons_zero, Nat.zero_add, Nat.reduceAdd, List.drop_succ_cons, List.drop_zero, List.drop_nil, e_0, e_1, e_2, e_3, e_4, e_5]
 clear e_0 e_1 e_2 e_3 e_4 e_5
 have hJ12 := hJm.es
 clear hJm
 go_wp2
 go_ret
 exact ⟨rfl, hJ12.below⟩
set_option maxRecDepth 100000 in
set_option maxHeartbeats 12800000 in
theorem rn_10 (v x u : Vc) (r q : Tu) (b c d : Bool) (hHp : ∀ W : World, Calls Try.prog 25 #[.agg (cV v), .agg (cV x)] W (PVal (.bool true) W)) (hHs : ∀ W : World, Calls Try.prog 36 #[.agg (cT r), .agg (cT q)] W (PVal (.bool false) W)) (hHa : ∀ W : World, Calls Try.prog 36 #[.agg (cT (expT v)), .agg (cT (expT x))] W (PVal (.bool true) W)) (hHb : ∀ W : World, Calls Try.prog 25 #[.agg (cV (appT r u)), .agg (cV (appT q u))] W (PVal (.bool b) W)) (hHc : ∀ W : World, Calls Try.prog 36 #[.agg (cT (mulT r r)), .agg (cT (mulT q q))] W (PVal (.bool c) W)) (hHd : ∀ W : World, Calls Try.prog 44 #[.agg (cS (detT r)), .agg (cS (detT q))] W (PVal (.bool d) W)) (w : World)   : Calls Try.prog 8 #[.agg (cV v), .agg (cV x), .agg (cT r), .agg (cT q), .agg (cV u)] w (PVal (.bool true) w) := by
 have Hp := Lib.hid hHp
 have Hs := Lib.hid hHs
 have Ha := Lib.hid hHa
 have Hb := Lib.hid hHb
 have Hc := Lib.hid hHc
 have Hd := Lib.hid hHd
 clear hHp hHs hHa hHb hHc hHd
 have hJ0 := es_nil w
 go_enter Try.func8, Try.ntmps8
 go_wp2_with (refine stop_box 25 (.tmp 0) (cV v) rfl rfl rfl hJ0 (fun bk1 W1 hJ1 => ?_))
 clear hJ0
 unfold Stop
 try simp only [Act.put, List.setIfInBounds_toArray, List.set_cons_succ, List.set_cons_zero]
 go_wp2_with (refine stop_box 25 (.tmp 1) (cV x) rfl rfl rfl hJ1 (fun bk2 W2 hJ2 => ?_))
 clear hJ1
 unfold Stop
 try simp only [Act.put, List.setIfInBounds_toArray, List.set_cons_succ, List.set_cons_zero]
 go_wp2_with (refine stop_box 50 (.tmp 2) (cT r) rfl rfl rfl hJ2 (fun bk3 W3 hJ3 => ?_))
 clear hJ2
 unfold Stop
 try simp only [Act.put, List.setIfInBounds_toArray, List.set_cons_succ, List.set_cons_zero]
 go_wp2_with (refine stop_box 50 (.tmp 3) (cT q) rfl rfl rfl hJ3 (fun bk4 W4 hJ4 => ?_))
 clear hJ3
 unfold Stop
 try simp only [Act.put, List.setIfInBounds_toArray, List.set_cons_succ, List.set_cons_zero]
 go_wp2_with (refine stop_box 25 (.tmp 4) (cV u) rfl rfl rfl hJ4 (fun bk5 W5 hJ5 => ?_))
 clear hJ4
 unfold Stop
 try simp only [Act.put, List.setIfInBounds_toArray, List.set_cons_succ, List.set_cons_zero]
 go_wp2_with fail
 refine (rawake_any W5).mono ?_
 rintro zz W6 ⟨rfl, hB⟩
 have hJ6 := hJ5.later hB
 clear hB
 clear hJ5
 go_wp2_with (refine stop_op rfl (fun K hK => wp_load 25 (.tmp 5) rfl bk1 0 9 (cV v) (cV v) 25 (hJ6.at' _ (List.mem_of_getElem? (i := 4) rfl)) rfl ag25 sz25 (Nat.le_of_ble_eq_true (by kernel_rfl)) (by kernel_rfl) (hK _ _ ?_)))
 unfold Stop
 try simp only [Act.put, List.setIfInBounds_toArray, List.set_cons_succ, List.set_cons_zero]
 go_wp2_with (refine stop_op rfl (fun K hK => wp_load 25 (.tmp 6) rfl bk2 0 9 (cV x) (cV x) 25 (hJ6.at' _ (List.mem_of_getElem? (i := 3) rfl)) rfl ag25 sz25 (Nat.le_of_ble_eq_true (by kernel_rfl)) (by kernel_rfl) (hK _ _ ?_)))
 unfold Stop
 try simp only [Act.put, List.setIfInBounds_toArray, List.set_cons_succ, List.set_cons_zero]
 go_wp2_with fail
 refine (Hp.out _).mono ?_
 rintro zz W7 ⟨rfl, hB⟩
 have hJ7 := hJ6.later hB
 clear hB
 clear hJ6
 go_wp2_with (refine stop_op rfl (fun K hK => wp_load 50 (.tmp 7) rfl bk3 0 27 (cT r) (cT r) 50 (hJ7.at' _ (List.mem_of_getElem? (i := 2) rfl)) rfl ag50 sz50 (Nat.le_of_ble_eq_true (by kernel_rfl)) (by kernel_rfl) (hK _ _ ?_)))
 unfold Stop
 try simp only [Act.put, List.setIfInBounds_toArray, List.set_cons_succ, List.set_cons_zero]
 go_wp2_with (refine stop_op rfl (fun K hK => wp_load 50 (.tmp 8) rfl bk4 0 27 (cT q) (cT q) 50 (hJ7.at' _ (List.mem_of_getElem? (i := 1) rfl)) rfl ag50 sz50 (Nat.le_of_ble_eq_true (by kernel_rfl)) (by kernel_rfl) (hK _ _ ?_)))
 unfold Stop
 try simp only [Act.put, List.setIfInBounds_toArray, List.set_cons_succ, List.set_cons_zero]
 go_wp2_with fail
 refine (Hs.out _).mono ?_
 rintro zz W8 ⟨rfl, hB⟩
 have hJ8 := hJ7.later hB
 clear hB
 clear hJ7
 go_wp2
 obtain ⟨m4_8, hm⟩ : ∃ m, m = W8.heap.size := ⟨_, rfl⟩
 have hM := hJ8.em
 rw [← hm] at hM
 clear hm hJ8
 refine wp_region_z 6 [some 25, some 26, some 27, some 28, some 29, some 14] (veL m4_8 [.eq (.agg (cV v)), .eq (.agg (cT (expT v))), .eq (.agg (cV x)), .eq (.agg (cT (expT x))), .eq (.bool true), .eq (.bool true)]) (Em w m4_8 [(bk5, (cV u), 25), (bk4, (cT q), 50), (bk3, (cT r), 50), (bk2, (cV x), 25), (bk1, (cV v), 25)]) (by kernel_rfl) (by kernel_rfl) (by rfl) (by decide) (by rfl) hM ?_ ?_
 ·
  intro i hl hi uu ww aa hJ hd hev hin
  clear hM
  obtain rfl | rfl | rfl | rfl | rfl | rfl : i = 0 ∨ i = 1 ∨ i = 2 ∨ i = 3 ∨ i = 4 ∨ i = 5 := by omega
  ·
   exact .inr ⟨rfl, fun K' hK => wp_load 25 (.tmp 5) rfl bk1 0 9 (cV v) (cV v) 25 (hJ.es.at' _ (List.mem_of_getElem? (i := 4) rfl)) (eval_tmp ((hev 5 (by decide)).trans rfl)) ag25 sz25 (Nat.le_of_ble_eq_true (by kernel_rfl)) (by kernel_rfl) (hK _ _ hJ rfl veL_same)⟩
  ·
   exact .inr ⟨rfl, fun K' hK => wp_callv (.func 34) #[.tmp 25] _ 34 #[] #[.agg (cV v)] #[.agg (cV v)] rfl rfl (map1 (eval_tmp ((hin 0 25 rfl).trans (congrArg some (show uu 0 = .agg (cV v) from hd 0 (by decide) (by kernel_rfl)))))) (by kernel_rfl) (fun _ _ => by kernel_rfl) (tExp_any v ww) (fun _ hB => (hK _ _ (hJ.later hB) rfl (veL_later hB)))⟩
  ·
   exact .inr ⟨rfl, fun K' hK => wp_load 25 (.tmp 6) rfl bk2 0 9 (cV x) (cV x) 25 (hJ.es.at' _ (List.mem_of_getElem? (i := 3) rfl)) (eval_tmp ((hev 6 (by decide)).trans rfl)) ag25 sz25 (Nat.le_of_ble_eq_true (by kernel_rfl)) (by kernel_rfl) (hK _ _ hJ rfl veL_same)⟩
  ·
   exact .inr ⟨rfl, fun K' hK => wp_callv (.func 34) #[.tmp 27] _ 34 #[] #[.agg (cV x)] #[.agg (cV x)] rfl rfl (map1 (eval_tmp ((hin 2 27 rfl).trans (congrArg some (show uu 2 = .agg (cV x) from hd 2 (by decide) (by kernel_rfl)))))) (by kernel_rfl) (fun _ _ => by kernel_rfl) (tExp_any x ww) (fun _ hB => (hK _ _ (hJ.later hB) rfl (veL_later hB)))⟩
  ·
   exact .inr ⟨rfl, fun K' hK => wp_callv (.func 36) #[.tmp 26, .tmp 28] _ 36 #[] #[.agg (cT (expT v)), .agg (cT (expT x))] #[.agg (cT (expT v)), .agg (cT (expT x))] rfl rfl (map2 (eval_tmp ((hin 1 26 rfl).trans (congrArg some (show uu 1 = .agg (cT (expT v)) from hd 1 (by decide) (by kernel_rfl))))) (eval_tmp ((hin 3 28 rfl).trans (congrArg some (show uu 3 = .agg (cT (expT x)) from hd 3 (by decide) (by kernel_rfl)))))) (by kernel_rfl) (fun _ _ => by kernel_rfl) (Ha.out ww) (fun _ hB => (hK _ _ (hJ.later hB) rfl (veL_later hB)))⟩
  ·
   exact .inr ⟨rfl, fun K' hK => wp_asgn (.tmp 29) rfl (eval_tmp ((hin 4 29 rfl).trans (congrArg some (show uu 4 = .bool true from hd 4 (by decide) (by kernel_rfl))))) (hK _ _ hJ rfl veL_same)⟩
 clear hM
 intro uu W9 hJm hd
 have e_0 : uu 0 = .agg (cV v) := hd 0 (by decide)
 have e_1 : uu 1 = .agg (cT (expT v)) := hd 1 (by decide)
 have e_2 : uu 2 = .agg (cV x) := hd 2 (by decide)
 have e_3 : uu 3 = .agg (cT (expT x)) := hd 3 (by decide)
 have e_4 : uu 4 = .bool true := hd 4 (by decide)
 have e_5 : uu 5 = .bool true := hd 5 (by decide)
 clear hd
 simp only [layS, Act.put, List.setIfInBounds_toArray, List.set_cons_succ, List.set_cons_zero, Nat.zero_add, Nat.reduceAdd, List.drop_succ_cons, List.drop_zero, List.drop_nil, e_0, e_1, e_2, e_3, e_4, e_5]
 clear e_0 e_1 e_2 e_3 e_4 e_5
 have hJ9 := hJm.es
 clear hJm
 go_wp2
 obtain ⟨m5_9, hm⟩ : ∃ m, m = W9.heap.size := ⟨_, rfl⟩
 have hM := hJ9.em
 rw [← hm] at hM
 clear hm hJ9
 refine wp_region_z 8 [some 30, some 31, some 32, some 33, some 34, some 35, some 36, some 15] (veL m5_9 [.eq (.agg (cT r)), .eq (.agg (cV u)), .eq (.agg (cV (appT r u))), .eq (.agg (cT q)), .eq (.agg (cV u)), .eq (.agg (cV (appT q u))), .eq (.bool b), .eq (.bool b)]) (Em w m5_9 [(bk5, (cV u), 25), (bk4, (cT q), 50), (bk3, (cT r), 50), (bk2, (cV x), 25), (bk1, (cV v), 25)]) (by kernel_rfl) (by kernel_rfl) (by rfl) (by decide) (by rfl) hM ?_ ?_
 ·
  intro i hl hi uu ww aa hJ hd hev hin
  clear hM
  obtain rfl | rfl | rfl | rfl | rfl | rfl | rfl | rfl : i = 0 ∨ i = 1 ∨ i = 2 ∨ i = 3 ∨ i = 4 ∨ i = 5 ∨ i = 6 ∨ i = 7 := by omega
  ·
   exact .inr ⟨rfl, fun K' hK => wp_load 50 (.tmp 7) rfl bk3 0 27 (cT r) (cT r) 50 (hJ.es.at' _ (List.mem_of_getElem? (i := 2) rfl)) (eval_tmp ((hev 7 (by decide)).trans rfl)) ag50 sz50 (Nat.le_of_ble_eq_true (by kernel_rfl)) (by kernel_rfl) (hK _ _ hJ rfl veL_same)⟩
  ·
   exact .inr ⟨rfl, fun K' hK => wp_load 25 (.tmp 9) rfl bk5 0 9 (cV u) (cV u) 25 (hJ.es.at' _ (List.mem_of_getElem? (i := 0) rfl)) (eval_tmp ((hev 9 (by decide)).trans rfl)) ag25 sz25 (Nat.le_of_ble_eq_true (by kernel_rfl)) (by kernel_rfl) (hK _ _ hJ rfl veL_same)⟩
  ·
   exact .inr ⟨rfl, fun K' hK => wp_callv (.func 42) #[.tmp 30, .tmp 31] _ 42 #[] #[.agg (cT r), .agg (cV u)] #[.agg (cT r), .agg (cV u)] rfl rfl (map2 (eval_tmp ((hin 0 30 rfl).trans (congrArg some (show uu 0 = .agg (cT r) from hd 0 (by decide) (by kernel_rfl))))) (eval_tmp ((hin 1 31 rfl).trans (congrArg some (show uu 1 = .agg (cV u) from hd 1 (by decide) (by kernel_rfl)))))) (by kernel_rfl) (fun _ _ => by kernel_rfl) (tApp_any r u ww) (fun _ hB => (hK _ _ (hJ.later hB) rfl (veL_later hB)))⟩
  ·
   exact .inr ⟨rfl, fun K' hK => wp_load 50 (.tmp 8) rfl bk4 0 27 (cT q) (cT q) 50 (hJ.es.at' _ (List.mem_of_getElem? (i := 1) rfl)) (eval_tmp ((hev 8 (by decide)).trans rfl)) ag50 sz50 (Nat.le_of_ble_eq_true (by kernel_rfl)) (by kernel_rfl) (hK _ _ hJ rfl veL_same)⟩
  ·
   exact .inr ⟨rfl, fun K' hK => wp_load 25 (.tmp 9) rfl bk5 0 9 (cV u) (cV u) 25 (hJ.es.at' _ (List.mem_of_getElem? (i := 0) rfl)) (eval_tmp ((hev 9 (by decide)).trans rfl)) ag25 sz25 (Nat.le_of_ble_eq_true (by kernel_rfl)) (by kernel_rfl) (hK _ _ hJ rfl veL_same)⟩
  ·
   exact .inr ⟨rfl, fun K' hK => wp_callv (.func 42) #[.tmp 33, .tmp 34] _ 42 #[] #[.agg (cT q), .agg (cV u)] #[.agg (cT q), .agg (cV u)] rfl rfl (map2 (eval_tmp ((hin 3 33 rfl).trans (congrArg some (show uu 3 = .agg (cT q) from hd 3 (by decide) (by kernel_rfl))))) (eval_tmp ((hin 4 34 rfl).trans (congrArg some (show uu 4 = .agg (cV u) from hd 4 (by decide) (by kernel_rfl)))))) (by kernel_rfl) (fun _ _ => by kernel_rfl) (tApp_any q u ww) (fun _ hB => (hK _ _ (hJ.later hB) rfl (veL_later hB)))⟩
  ·
   exact .inr ⟨rfl, fun K' hK => wp_callv (.func 25) #[.tmp 32, .tmp 35] _ 25 #[] #[.agg (cV (appT r u)), .agg (cV (appT q u))] #[.agg (cV (appT r u)), .agg (cV (appT q u))] rfl rfl (map2 (eval_tmp ((hin 2 32 rfl).trans (congrArg some (show uu 2 = .agg (cV (appT r u)) from hd 2 (by decide) (by kernel_rfl))))) (eval_tmp ((hin 5 35 rfl).trans (congrArg some (show uu 5 = .agg (cV (appT q u)) from hd 5 (by decide) (by kernel_rfl)))))) (by kernel_rfl) (fun _ _ => by kernel_rfl) (Hb.out ww) (fun _ hB => (hK _ _ (hJ.later hB) rfl (veL_later hB)))⟩
  ·
   exact .inr ⟨rfl, fun K' hK => wp_asgn (.tmp 36) rfl (eval_tmp ((hin 6 36 rfl).trans (congrArg some (show uu 6 = .bool b from hd 6 (by decide) (by kernel_rfl))))) (hK _ _ hJ rfl veL_same)⟩
 clear hM
 intro uu W10 hJm hd
 have e_0 : uu 0 = .agg (cT r) := hd 0 (by decide)
 have e_1 : uu 1 = .agg (cV u) := hd 1 (by decide)
 have e_2 : uu 2 = .agg (cV (appT r u)) := hd 2 (by decide)
 have e_3 : uu 3 = .agg (cT q) := hd 3 (by decide)
 have e_4 : uu 4 = .agg (cV u) := hd 4 (by decide)
 have e_5 : uu 5 = .agg (cV (appT q u)) := hd 5 (by decide)
 have e_6 : uu 6 = .bool b := hd 6 (by decide)
 have e_7 : uu 7 = .bool b := hd 7 (by decide)
 clear hd
 simp only [layS, Act.put, List.setIfInBounds_toArray, List.set_cons_succ, List.set_cons_zero, Nat.zero_add, Nat.reduceAdd, List.drop_succ_cons, List.drop_zero, List.drop_nil, e_0, e_1, e_2, e_3, e_4, e_5, e_6, e_7]
 clear e_0 e_1 e_2 e_3 e_4 e_5 e_6 e_7
 have hJ10 := hJm.es
 clear hJm
 go_wp2
 obtain ⟨m6_10, hm⟩ : ∃ m, m = W10.heap.size := ⟨_, rfl⟩
 have hM := hJ10.em
 rw [← hm] at hM
 clear hm hJ10
 refine wp_region_z 8 [some 37, some 38, some 39, some 40, some 41, some 42, some 43, some 16] (veL m6_10 [.eq (.agg (cT r)), .eq (.agg (cT r)), .eq (.agg (cT (mulT r r))), .eq (.agg (cT q)), .eq (.agg (cT q)), .eq (.agg (cT (mulT q q))), .eq (.bool c), .eq (.bool c)]) (Em w m6_10 [(bk5, (cV u), 25), (bk4, (cT q), 50), (bk3, (cT r), 50), (bk2, (cV x), 25), (bk1, (cV v), 25)]) (by kernel_rfl) (by kernel_rfl) (by rfl) (by decide) (by rfl) hM ?_ ?_
 ·
  intro i hl hi uu ww aa hJ hd hev hin
  clear hM
  obtain rfl | rfl | rfl | rfl | rfl | rfl | rfl | rfl : i = 0 ∨ i = 1 ∨ i = 2 ∨ i = 3 ∨ i = 4 ∨ i = 5 ∨ i = 6 ∨ i = 7 := by omega
  ·
   exact .inr ⟨rfl, fun K' hK => wp_load 50 (.tmp 7) rfl bk3 0 27 (cT r) (cT r) 50 (hJ.es.at' _ (List.mem_of_getElem? (i := 2) rfl)) (eval_tmp ((hev 7 (by decide)).trans rfl)) ag50 sz50 (Nat.le_of_ble_eq_true (by kernel_rfl)) (by kernel_rfl) (hK _ _ hJ rfl veL_same)⟩
  ·
   exact .inr ⟨rfl, fun K' hK => wp_load 50 (.tmp 7) rfl bk3 0 27 (cT r) (cT r) 50 (hJ.es.at' _ (List.mem_of_getElem? (i := 2) rfl)) (eval_tmp ((hev 7 (by decide)).trans rfl)) ag50 sz50 (Nat.le_of_ble_eq_true (by kernel_rfl)) (by kernel_rfl) (hK _ _ hJ rfl veL_same)⟩
  ·
   exact .inr ⟨rfl, fun K' hK => wp_callv (.func 37) #[.tmp 37, .tmp 38] _ 37 #[] #[.agg (cT r), .agg (cT r)] #[.agg (cT r), .agg (cT r)] rfl rfl (map2 (eval_tmp ((hin 0 37 rfl).trans (congrArg some (show uu 0 = .agg (cT r) from hd 0 (by decide) (by kernel_rfl))))) (eval_tmp ((hin 1 38 rfl).trans (congrArg some (show uu 1 = .agg (cT r) from hd 1 (by decide) (by kernel_rfl)))))) (by kernel_rfl) (fun _ _ => by kernel_rfl) (tMul_any r r ww) (fun _ hB => (hK _ _ (hJ.later hB) rfl (veL_later hB)))⟩
  ·
   exact .inr ⟨rfl, fun K' hK => wp_load 50 (.tmp 8) rfl bk4 0 27 (cT q) (cT q) 50 (hJ.es.at' _ (List.mem_of_getElem? (i := 1) rfl)) (eval_tmp ((hev 8 (by decide)).trans rfl)) ag50 sz50 (Nat.le_of_ble_eq_true (by kernel_rfl)) (by kernel_rfl) (hK _ _ hJ rfl veL_same)⟩
  ·
   exact .inr ⟨rfl, fun K' hK => wp_load 50 (.tmp 8) rfl bk4 0 27 (cT q) (cT q) 50 (hJ.es.at' _ (List.mem_of_getElem? (i := 1) rfl)) (eval_tmp ((hev 8 (by decide)).trans rfl)) ag50 sz50 (Nat.le_of_ble_eq_true (by kernel_rfl)) (by kernel_rfl) (hK _ _ hJ rfl veL_same)⟩
  ·
   exact .inr ⟨rfl, fun K' hK => wp_callv (.func 37) #[.tmp 40, .tmp 41] _ 37 #[] #[.agg (cT q), .agg (cT q)] #[.agg (cT q), .agg (cT q)] rfl rfl (map2 (eval_tmp ((hin 3 40 rfl).trans (congrArg some (show uu 3 = .agg (cT q) from hd 3 (by decide) (by kernel_rfl))))) (eval_tmp ((hin 4 41 rfl).trans (congrArg some (show uu 4 = .agg (cT q) from hd 4 (by decide) (by kernel_rfl)))))) (by kernel_rfl) (fun _ _ => by kernel_rfl) (tMul_any q q ww) (fun _ hB => (hK _ _ (hJ.later hB) rfl (veL_later hB)))⟩
  ·
   exact .inr ⟨rfl, fun K' hK => wp_callv (.func 36) #[.tmp 39, .tmp 42] _ 36 #[] #[.agg (cT (mulT r r)), .agg (cT (mulT q q))] #[.agg (cT (mulT r r)), .agg (cT (mulT q q))] rfl rfl (map2 (eval_tmp ((hin 2 39 rfl).trans (congrArg some (show uu 2 = .agg (cT (mulT r r)) from hd 2 (by decide) (by kernel_rfl))))) (eval_tmp ((hin 5 42 rfl).trans (congrArg some (show uu 5 = .agg (cT (mulT q q)) from hd 5 (by decide) (by kernel_rfl)))))) (by kernel_rfl) (fun _ _ => by kernel_rfl) (Hc.out ww) (fun _ hB => (hK _ _ (hJ.later hB) rfl (veL_later hB)))⟩
  ·
   exact .inr ⟨rfl, fun K' hK => wp_asgn (.tmp 43) rfl (eval_tmp ((hin 6 43 rfl).trans (congrArg some (show uu 6 = .bool c from hd 6 (by decide) (by kernel_rfl))))) (hK _ _ hJ rfl veL_same)⟩
 clear hM
 intro uu W11 hJm hd
 have e_0 : uu 0 = .agg (cT r) := hd 0 (by decide)
 have e_1 : uu 1 = .agg (cT r) := hd 1 (by decide)
 have e_2 : uu 2 = .agg (cT (mulT r r)) := hd 2 (by decide)
 have e_3 : uu 3 = .agg (cT q) := hd 3 (by decide)
 have e_4 : uu 4 = .agg (cT q) := hd 4 (by decide)
 have e_5 : uu 5 = .agg (cT (mulT q q)) := hd 5 (by decide)
 have e_6 : uu 6 = .bool c := hd 6 (by decide)
 have e_7 : uu 7 = .bool c := hd 7 (by decide)
 clear hd
 simp only [layS, Act.put, List.setIfInBounds_toArray, List.set_cons_succ, List.set_cons_zero, Nat.zero_add, Nat.reduceAdd, List.drop_succ_cons, List.drop_zero, List.drop_nil, e_0, e_1, e_2, e_3, e_4, e_5, e_6, e_7]
 clear e_0 e_1 e_2 e_3 e_4 e_5 e_6 e_7
 have hJ11 := hJm.es
 clear hJm
 go_wp2
 obtain ⟨m7_11, hm⟩ : ∃ m, m = W11.heap.size := ⟨_, rfl⟩
 have hM := hJ11.em
 rw [← hm] at hM
 clear hm hJ11
 refine wp_region_z 6 [some 44, some 45, some 46, some 47, some 48, some 17] (veL m7_11 [.eq (.agg (cT r)), .eq (.agg (cS (detT r))), .eq (.agg (cT q)), .eq (.agg (cS (detT q))), .eq (.bool d), .eq (.bool d)]) (Em w m7_11 [(bk5, (cV u), 25), (bk4, (cT q), 50), (bk3, (cT r), 50), (bk2, (cV x), 25), (bk1, (cV v), 25)]) (by kernel_rfl) (by kernel_rfl) (by rfl) (by decide) (by rfl) hM ?_ ?_
 ·
  intro i hl hi uu ww aa hJ hd hev hin
  clear hM
  obtain rfl | rfl | rfl | rfl | rfl | rfl : i = 0 ∨ i = 1 ∨ i = 2 ∨ i = 3 ∨ i = 4 ∨ i = 5 := by omega
  ·
   exact .inr ⟨rfl, fun K' hK => wp_load 50 (.tmp 7) rfl bk3 0 27 (cT r) (cT r) 50 (hJ.es.at' _ (List.mem_of_getElem? (i := 2) rfl)) (eval_tmp ((hev 7 (by decide)).trans rfl)) ag50 sz50 (Nat.le_of_ble_eq_true (by kernel_rfl)) (by kernel_rfl) (hK _ _ hJ rfl veL_same)⟩
  ·
   exact .inr ⟨rfl, fun K' hK => wp_callv (.func 39) #[.tmp 44] _ 39 #[] #[.agg (cT r)] #[.agg (cT r)] rfl rfl (map1 (eval_tmp ((hin 0 44 rfl).trans (congrArg some (show uu 0 = .agg (cT r) from hd 0 (by decide) (by kernel_rfl)))))) (by kernel_rfl) (fun _ _ => by kernel_rfl) (tDet_any r ww) (fun _ hB => (hK _ _ (hJ.later hB) rfl (veL_later hB)))⟩
  ·
   exact .inr ⟨rfl, fun K' hK => wp_load 50 (.tmp 8) rfl bk4 0 27 (cT q) (cT q) 50 (hJ.es.at' _ (List.mem_of_getElem? (i := 1) rfl)) (eval_tmp ((hev 8 (by decide)).trans rfl)) ag50 sz50 (Nat.le_of_ble_eq_true (by kernel_rfl)) (by kernel_rfl) (hK _ _ hJ rfl veL_same)⟩
  ·
   exact .inr ⟨rfl, fun K' hK => wp_callv (.func 39) #[.tmp 46] _ 39 #[] #[.agg (cT q)] #[.agg (cT q)] rfl rfl (map1 (eval_tmp ((hin 2 46 rfl).trans (congrArg some (show uu 2 = .agg (cT q) from hd 2 (by decide) (by kernel_rfl)))))) (by kernel_rfl) (fun _ _ => by kernel_rfl) (tDet_any q ww) (fun _ hB => (hK _ _ (hJ.later hB) rfl (veL_later hB)))⟩
  ·
   exact .inr ⟨rfl, fun K' hK => wp_callv (.func 44) #[.tmp 45, .tmp 47] _ 44 #[] #[.agg (cS (detT r)), .agg (cS (detT q))] #[.agg (cS (detT r)), .agg (cS (detT q))] rfl rfl (map2 (eval_tmp ((hin 1 45 rfl).trans (congrArg some (show uu 1 = .agg (cS (detT r)) from hd 1 (by decide) (by kernel_rfl))))) (eval_tmp ((hin 3 47 rfl).trans (congrArg some (show uu 3 = .agg (cS (detT q)) from hd 3 (by decide) (by kernel_rfl)))))) (by kernel_rfl) (fun _ _ => by kernel_rfl) (Hd.out ww) (fun _ hB => (hK _ _ (hJ.later hB) rfl (veL_later hB)))⟩
  ·
   exact .inr ⟨rfl, fun K' hK => wp_asgn (.tmp 48) rfl (eval_tmp ((hin 4 48 rfl).trans (congrArg some (show uu 4 = .bool d from hd 4 (by decide) (by kernel_rfl))))) (hK _ _ hJ rfl veL_same)⟩
 clear hM
 intro uu W12 hJm hd
 have e_0 : uu 0 = .agg (cT r) := hd 0 (by decide)
 have e_1 : uu 1 = .agg (cS (detT r)) := hd 1 (by decide)
 have e_2 : uu 2 = .agg (cT q) := hd 2 (by decide)
 have e_3 : uu 3 = .agg (cS (detT q)) := hd 3 (by decide)
 have e_4 : uu 4 = .bool d := hd 4 (by decide)
 have e_5 : uu 5 = .bool d := hd 5 (by decide)
 clear hd
 simp only [layS, Act.put, List.setIfInBounds_toArray, List.set_cons_succ, List.set_cons_zero, Nat.zero_add, Nat.reduceAdd, List.drop_succ_cons, List.drop_zero, List.drop_nil, e_0, e_1, e_2, e_3, e_4, e_5]
 clear e_0 e_1 e_2 e_3 e_4 e_5
 have hJ12 := hJm.es
 clear hJm
 go_wp2
 go_ret
 exact ⟨rfl, hJ12.below⟩
set_option maxRecDepth 100000 in
set_option maxHeartbeats 12800000 in
theorem rn_11 (v x u : Vc) (r q : Tu) (hHp : ∀ W : World, Calls Try.prog 25 #[.agg (cV v), .agg (cV x)] W (PVal (.bool true) W)) (hHs : ∀ W : World, Calls Try.prog 36 #[.agg (cT r), .agg (cT q)] W (PVal (.bool true) W)) (hHa : ∀ W : World, Calls Try.prog 36 #[.agg (cT (expT v)), .agg (cT (expT x))] W (PVal (.bool true) W)) (hHb : ∀ W : World, Calls Try.prog 25 #[.agg (cV (appT r u)), .agg (cV (appT q u))] W (PVal (.bool true) W)) (hHc : ∀ W : World, Calls Try.prog 36 #[.agg (cT (mulT r r)), .agg (cT (mulT q q))] W (PVal (.bool true) W)) (hHd : ∀ W : World, Calls Try.prog 44 #[.agg (cS (detT r)), .agg (cS (detT q))] W (PVal (.bool true) W)) (w : World)   : Calls Try.prog 8 #[.agg (cV v), .agg (cV x), .agg (cT r), .agg (cT q), .agg (cV u)] w (PVal (.bool true) w) := by
 have Hp := Lib.hid hHp
 have Hs := Lib.hid hHs
 have Ha := Lib.hid hHa
 have Hb := Lib.hid hHb
 have Hc := Lib.hid hHc
 have Hd := Lib.hid hHd
 clear hHp hHs hHa hHb hHc hHd
 have hJ0 := es_nil w
 go_enter Try.func8, Try.ntmps8
 go_wp2_with (refine stop_box 25 (.tmp 0) (cV v) rfl rfl rfl hJ0 (fun bk1 W1 hJ1 => ?_))
 clear hJ0
 unfold Stop
 try simp only [Act.put, List.setIfInBounds_toArray, List.set_cons_succ, List.set_cons_zero]
 go_wp2_with (refine stop_box 25 (.tmp 1) (cV x) rfl rfl rfl hJ1 (fun bk2 W2 hJ2 => ?_))
 clear hJ1
 unfold Stop
 try simp only [Act.put, List.setIfInBounds_toArray, List.set_cons_succ, List.set_cons_zero]
 go_wp2_with (refine stop_box 50 (.tmp 2) (cT r) rfl rfl rfl hJ2 (fun bk3 W3 hJ3 => ?_))
 clear hJ2
 unfold Stop
 try simp only [Act.put, List.setIfInBounds_toArray, List.set_cons_succ, List.set_cons_zero]
 go_wp2_with (refine stop_box 50 (.tmp 3) (cT q) rfl rfl rfl hJ3 (fun bk4 W4 hJ4 => ?_))
 clear hJ3
 unfold Stop
 try simp only [Act.put, List.setIfInBounds_toArray, List.set_cons_succ, List.set_cons_zero]
 go_wp2_with (refine stop_box 25 (.tmp 4) (cV u) rfl rfl rfl hJ4 (fun bk5 W5 hJ5 => ?_))
 clear hJ4
 unfold Stop
 try simp only [Act.put, List.setIfInBounds_toArray, List.set_cons_succ, List.set_cons_zero]
 go_wp2_with fail
 refine (rawake_any W5).mono ?_
 rintro zz W6 ⟨rfl, hB⟩
 have hJ6 := hJ5.later hB
 clear hB
 clear hJ5
 go_wp2_with (refine stop_op rfl (fun K hK => wp_load 25 (.tmp 5) rfl bk1 0 9 (cV v) (cV v) 25 (hJ6.at' _ (List.mem_of_getElem? (i := 4) rfl)) rfl ag25 sz25 (Nat.le_of_ble_eq_true (by kernel_rfl)) (by kernel_rfl) (hK _ _ ?_)))
 unfold Stop
 try simp only [Act.put, List.setIfInBounds_toArray, List.set_cons_succ, List.set_cons_zero]
 go_wp2_with (refine stop_op rfl (fun K hK => wp_load 25 (.tmp 6) rfl bk2 0 9 (cV x) (cV x) 25 (hJ6.at' _ (List.mem_of_getElem? (i := 3) rfl)) rfl ag25 sz25 (Nat.le_of_ble_eq_true (by kernel_rfl)) (by kernel_rfl) (hK _ _ ?_)))
 unfold Stop
 try simp only [Act.put, List.setIfInBounds_toArray, List.set_cons_succ, List.set_cons_zero]
 go_wp2_with fail
 refine (Hp.out _).mono ?_
 rintro zz W7 ⟨rfl, hB⟩
 have hJ7 := hJ6.later hB
 clear hB
 clear hJ6
 go_wp2_with (refine stop_op rfl (fun K hK => wp_load 50 (.tmp 7) rfl bk3 0 27 (cT r) (cT r) 50 (hJ7.at' _ (List.mem_of_getElem? (i := 2) rfl)) rfl ag50 sz50 (Nat.le_of_ble_eq_true (by kernel_rfl)) (by kernel_rfl) (hK _ _ ?_)))
 unfold Stop
 try simp only [Act.put, List.setIfInBounds_toArray, List.set_cons_succ, List.set_cons_zero]
 go_wp2_with (refine stop_op rfl (fun K hK => wp_load 50 (.tmp 8) rfl bk4 0 27 (cT q) (cT q) 50 (hJ7.at' _ (List.mem_of_getElem? (i := 1) rfl)) rfl ag50 sz50 (Nat.le_of_ble_eq_true (by kernel_rfl)) (by kernel_rfl) (hK _ _ ?_)))
 unfold Stop
 try simp only [Act.put, List.setIfInBounds_toArray, List.set_cons_succ, List.set_cons_zero]
 go_wp2_with fail
 refine (Hs.out _).mono ?_
 rintro zz W8 ⟨rfl, hB⟩
 have hJ8 := hJ7.later hB
 clear hB
 clear hJ7
 go_wp2
 obtain ⟨m4_8, hm⟩ : ∃ m, m = W8.heap.size := ⟨_, rfl⟩
 have hM := hJ8.em
 rw [← hm] at hM
 clear hm hJ8
 refine wp_region_z 6 [some 25, some 26, some 27, some 28, some 29, some 14] (veL m4_8 [.eq (.agg (cV v)), .eq (.agg (cT (expT v))), .eq (.agg (cV x)), .eq (.agg (cT (expT x))), .eq (.bool true), .eq (.bool true)]) (Em w m4_8 [(bk5, (cV u), 25), (bk4, (cT q), 50), (bk3, (cT r), 50), (bk2, (cV x), 25), (bk1, (cV v), 25)]) (by kernel_rfl) (by kernel_rfl) (by rfl) (by decide) (by rfl) hM ?_ ?_
 ·
  intro i hl hi uu ww aa hJ hd hev hin
  clear hM
  obtain rfl | rfl | rfl | rfl | rfl | rfl : i = 0 ∨ i = 1 ∨ i = 2 ∨ i = 3 ∨ i = 4 ∨ i = 5 := by omega
  ·
   exact .inr ⟨rfl, fun K' hK => wp_load 25 (.tmp 5) rfl bk1 0 9 (cV v) (cV v) 25 (hJ.es.at' _ (List.mem_of_getElem? (i := 4) rfl)) (eval_tmp ((hev 5 (by decide)).trans rfl)) ag25 sz25 (Nat.le_of_ble_eq_true (by kernel_rfl)) (by kernel_rfl) (hK _ _ hJ rfl veL_same)⟩
  ·
   exact .inr ⟨rfl, fun K' hK => wp_callv (.func 34) #[.tmp 25] _ 34 #[] #[.agg (cV v)] #[.agg (cV v)] rfl rfl (map1 (eval_tmp ((hin 0 25 rfl).trans (congrArg some (show uu 0 = .agg (cV v) from hd 0 (by decide) (by kernel_rfl)))))) (by kernel_rfl) (fun _ _ => by kernel_rfl) (tExp_any v ww) (fun _ hB => (hK _ _ (hJ.later hB) rfl (veL_later hB)))⟩
  ·
   exact .inr ⟨rfl, fun K' hK => wp_load 25 (.tmp 6) rfl bk2 0 9 (cV x) (cV x) 25 (hJ.es.at' _ (List.mem_of_getElem? (i := 3) rfl)) (eval_tmp ((hev 6 (by decide)).trans rfl)) ag25 sz25 (Nat.le_of_ble_eq_true (by kernel_rfl)) (by kernel_rfl) (hK _ _ hJ rfl veL_same)⟩
  ·
   exact .inr ⟨rfl, fun K' hK => wp_callv (.func 34) #[.tmp 27] _ 34 #[] #[.agg (cV x)] #[.agg (cV x)] rfl rfl (map1 (eval_tmp ((hin 2 27 rfl).trans (congrArg some (show uu 2 = .agg (cV x) from hd 2 (by decide) (by kernel_rfl)))))) (by kernel_rfl) (fun _ _ => by kernel_rfl) (tExp_any x ww) (fun _ hB => (hK _ _ (hJ.later hB) rfl (veL_later hB)))⟩
  ·
   exact .inr ⟨rfl, fun K' hK => wp_callv (.func 36) #[.tmp 26, .tmp 28] _ 36 #[] #[.agg (cT (expT v)), .agg (cT (expT x))] #[.agg (cT (expT v)), .agg (cT (expT x))] rfl rfl (map2 (eval_tmp ((hin 1 26 rfl).trans (congrArg some (show uu 1 = .agg (cT (expT v)) from hd 1 (by decide) (by kernel_rfl))))) (eval_tmp ((hin 3 28 rfl).trans (congrArg some (show uu 3 = .agg (cT (expT x)) from hd 3 (by decide) (by kernel_rfl)))))) (by kernel_rfl) (fun _ _ => by kernel_rfl) (Ha.out ww) (fun _ hB => (hK _ _ (hJ.later hB) rfl (veL_later hB)))⟩
  ·
   exact .inr ⟨rfl, fun K' hK => wp_asgn (.tmp 29) rfl (eval_tmp ((hin 4 29 rfl).trans (congrArg some (show uu 4 = .bool true from hd 4 (by decide) (by kernel_rfl))))) (hK _ _ hJ rfl veL_same)⟩
 clear hM
 intro uu W9 hJm hd
 have e_0 : uu 0 = .agg (cV v) := hd 0 (by decide)
 have e_1 : uu 1 = .agg (cT (expT v)) := hd 1 (by decide)
 have e_2 : uu 2 = .agg (cV x) := hd 2 (by decide)
 have e_3 : uu 3 = .agg (cT (expT x)) := hd 3 (by decide)
 have e_4 : uu 4 = .bool true := hd 4 (by decide)
 have e_5 : uu 5 = .bool true := hd 5 (by decide)
 clear hd
 simp only [layS, Act.put, List.setIfInBounds_toArray, List.set_cons_succ, List.set_cons_zero, Nat.zero_add, Nat.reduceAdd, List.drop_succ_cons, List.drop_zero, List.drop_nil, e_0, e_1, e_2, e_3, e_4, e_5]
 clear e_0 e_1 e_2 e_3 e_4 e_5
 have hJ9 := hJm.es
 clear hJm
 go_wp2
 obtain ⟨m5_9, hm⟩ : ∃ m, m = W9.heap.size := ⟨_, rfl⟩
 have hM := hJ9.em
 rw [← hm] at hM
 clear hm hJ9
 refine wp_region_z 8 [some 30, some 31, some 32, some 33, some 34, some 35, some 36, some 15] (veL m5_9 [.eq (.agg (cT r)), .eq (.agg (cV u)), .eq (.agg (cV (appT r u))), .eq (.agg (cT q)), .eq (.agg (cV u)), .eq (.agg (cV (appT q u))), .eq (.bool true), .eq (.bool true)]) (Em w m5_9 [(bk5, (cV u), 25), (bk4, (cT q), 50), (bk3, (cT r), 50), (bk2, (cV x), 25), (bk1, (cV v), 25)]) (by kernel_rfl) (by kernel_rfl) (by rfl) (by decide) (by rfl) hM ?_ ?_
 ·
  intro i hl hi uu ww aa hJ hd hev hin
  clear hM
  obtain rfl | rfl | rfl | rfl | rfl | rfl | rfl | rfl : i = 0 ∨ i = 1 ∨ i = 2 ∨ i = 3 ∨ i = 4 ∨ i = 5 ∨ i = 6 ∨ i = 7 := by omega
  ·
   exact .inr ⟨rfl, fun K' hK => wp_load 50 (.tmp 7) rfl bk3 0 27 (cT r) (cT r) 50 (hJ.es.at' _ (List.mem_of_getElem? (i := 2) rfl)) (eval_tmp ((hev 7 (by decide)).trans rfl)) ag50 sz50 (Nat.le_of_ble_eq_true (by kernel_rfl)) (by kernel_rfl) (hK _ _ hJ rfl veL_same)⟩
  ·
   exact .inr ⟨rfl, fun K' hK => wp_load 25 (.tmp 9) rfl bk5 0 9 (cV u) (cV u) 25 (hJ.es.at' _ (List.mem_of_getElem? (i := 0) rfl)) (eval_tmp ((hev 9 (by decide)).trans rfl)) ag25 sz25 (Nat.le_of_ble_eq_true (by kernel_rfl)) (by kernel_rfl) (hK _ _ hJ rfl veL_same)⟩
  ·
   exact .inr ⟨rfl, fun K' hK => wp_callv (.func 42) #[.tmp 30, .tmp 31] _ 42 #[] #[.agg (cT r), .agg (cV u)] #[.agg (cT r), .agg (cV u)] rfl rfl (map2 (eval_tmp ((hin 0 30 rfl).trans (congrArg some (show uu 0 = .agg (cT r) from hd 0 (by decide) (by kernel_rfl))))) (eval_tmp ((hin 1 31 rfl).trans (congrArg some (show uu 1 = .agg (cV u) from hd 1 (by decide) (by kernel_rfl)))))) (by kernel_rfl) (fun _ _ => by kernel_rfl) (tApp_any r u ww) (fun _ hB => (hK _ _ (hJ.later hB) rfl (veL_later hB)))⟩
  ·
   exact .inr ⟨rfl, fun K' hK => wp_load 50 (.tmp 8) rfl bk4 0 27 (cT q) (cT q) 50 (hJ.es.at' _ (List.mem_of_getElem? (i := 1) rfl)) (eval_tmp ((hev 8 (by decide)).trans rfl)) ag50 sz50 (Nat.le_of_ble_eq_true (by kernel_rfl)) (by kernel_rfl) (hK _ _ hJ rfl veL_same)⟩
  ·
   exact .inr ⟨rfl, fun K' hK => wp_load 25 (.tmp 9) rfl bk5 0 9 (cV u) (cV u) 25 (hJ.es.at' _ (List.mem_of_getElem? (i := 0) rfl)) (eval_tmp ((hev 9 (by decide)).trans rfl)) ag25 sz25 (Nat.le_of_ble_eq_true (by kernel_rfl)) (by kernel_rfl) (hK _ _ hJ rfl veL_same)⟩
  ·
   exact .inr ⟨rfl, fun K' hK => wp_callv (.func 42) #[.tmp 33, .tmp 34] _ 42 #[] #[.agg (cT q), .agg (cV u)] #[.agg (cT q), .agg (cV u)] rfl rfl (map2 (eval_tmp ((hin 3 33 rfl).trans (congrArg some (show uu 3 = .agg (cT q) from hd 3 (by decide) (by kernel_rfl))))) (eval_tmp ((hin 4 34 rfl).trans (congrArg some (show uu 4 = .agg (cV u) from hd 4 (by decide) (by kernel_rfl)))))) (by kernel_rfl) (fun _ _ => by kernel_rfl) (tApp_any q u ww) (fun _ hB => (hK _ _ (hJ.later hB) rfl (veL_later hB)))⟩
  ·
   exact .inr ⟨rfl, fun K' hK => wp_callv (.func 25) #[.tmp 32, .tmp 35] _ 25 #[] #[.agg (cV (appT r u)), .agg (cV (appT q u))] #[.agg (cV (appT r u)), .agg (cV (appT q u))] rfl rfl (map2 (eval_tmp ((hin 2 32 rfl).trans (congrArg some (show uu 2 = .agg (cV (appT r u)) from hd 2 (by decide) (by kernel_rfl))))) (eval_tmp ((hin 5 35 rfl).trans (congrArg some (show uu 5 = .agg (cV (appT q u)) from hd 5 (by decide) (by kernel_rfl)))))) (by kernel_rfl) (fun _ _ => by kernel_rfl) (Hb.out ww) (fun _ hB => (hK _ _ (hJ.later hB) rfl (veL_later hB)))⟩
  ·
   exact .inr ⟨rfl, fun K' hK => wp_asgn (.tmp 36) rfl (eval_tmp ((hin 6 36 rfl).trans (congrArg some (show uu 6 = .bool true from hd 6 (by decide) (by kernel_rfl))))) (hK _ _ hJ rfl veL_same)⟩
 clear hM
 intro uu W10 hJm hd
 have e_0 : uu 0 = .agg (cT r) := hd 0 (by decide)
 have e_1 : uu 1 = .agg (cV u) := hd 1 (by decide)
 have e_2 : uu 2 = .agg (cV (appT r u)) := hd 2 (by decide)
 have e_3 : uu 3 = .agg (cT q) := hd 3 (by decide)
 have e_4 : uu 4 = .agg (cV u) := hd 4 (by decide)
 have e_5 : uu 5 = .agg (cV (appT q u)) := hd 5 (by decide)
 have e_6 : uu 6 = .bool true := hd 6 (by decide)
 have e_7 : uu 7 = .bool true := hd 7 (by decide)
 clear hd
 simp only [layS, Act.put, List.setIfInBounds_toArray, List.set_cons_succ, List.set_cons_zero, Nat.zero_add, Nat.reduceAdd, List.drop_succ_cons, List.drop_zero, List.drop_nil, e_0, e_1, e_2, e_3, e_4, e_5, e_6, e_7]
 clear e_0 e_1 e_2 e_3 e_4 e_5 e_6 e_7
 have hJ10 := hJm.es
 clear hJm
 go_wp2
 obtain ⟨m6_10, hm⟩ : ∃ m, m = W10.heap.size := ⟨_, rfl⟩
 have hM := hJ10.em
 rw [← hm] at hM
 clear hm hJ10
 refine wp_region_z 8 [some 37, some 38, some 39, some 40, some 41, some 42, some 43, some 16] (veL m6_10 [.eq (.agg (cT r)), .eq (.agg (cT r)), .eq (.agg (cT (mulT r r))), .eq (.agg (cT q)), .eq (.agg (cT q)), .eq (.agg (cT (mulT q q))), .eq (.bool true), .eq (.bool true)]) (Em w m6_10 [(bk5, (cV u), 25), (bk4, (cT q), 50), (bk3, (cT r), 50), (bk2, (cV x), 25), (bk1, (cV v), 25)]) (by kernel_rfl) (by kernel_rfl) (by rfl) (by decide) (by rfl) hM ?_ ?_
 ·
  intro i hl hi uu ww aa hJ hd hev hin
  clear hM
  obtain rfl | rfl | rfl | rfl | rfl | rfl | rfl | rfl : i = 0 ∨ i = 1 ∨ i = 2 ∨ i = 3 ∨ i = 4 ∨ i = 5 ∨ i = 6 ∨ i = 7 := by omega
  ·
   exact .inr ⟨rfl, fun K' hK => wp_load 50 (.tmp 7) rfl bk3 0 27 (cT r) (cT r) 50 (hJ.es.at' _ (List.mem_of_getElem? (i := 2) rfl)) (eval_tmp ((hev 7 (by decide)).trans rfl)) ag50 sz50 (Nat.le_of_ble_eq_true (by kernel_rfl)) (by kernel_rfl) (hK _ _ hJ rfl veL_same)⟩
  ·
   exact .inr ⟨rfl, fun K' hK => wp_load 50 (.tmp 7) rfl bk3 0 27 (cT r) (cT r) 50 (hJ.es.at' _ (List.mem_of_getElem? (i := 2) rfl)) (eval_tmp ((hev 7 (by decide)).trans rfl)) ag50 sz50 (Nat.le_of_ble_eq_true (by kernel_rfl)) (by kernel_rfl) (hK _ _ hJ rfl veL_same)⟩
  ·
   exact .inr ⟨rfl, fun K' hK => wp_callv (.func 37) #[.tmp 37, .tmp 38] _ 37 #[] #[.agg (cT r), .agg (cT r)] #[.agg (cT r), .agg (cT r)] rfl rfl (map2 (eval_tmp ((hin 0 37 rfl).trans (congrArg some (show uu 0 = .agg (cT r) from hd 0 (by decide) (by kernel_rfl))))) (eval_tmp ((hin 1 38 rfl).trans (congrArg some (show uu 1 = .agg (cT r) from hd 1 (by decide) (by kernel_rfl)))))) (by kernel_rfl) (fun _ _ => by kernel_rfl) (tMul_any r r ww) (fun _ hB => (hK _ _ (hJ.later hB) rfl (veL_later hB)))⟩
  ·
   exact .inr ⟨rfl, fun K' hK => wp_load 50 (.tmp 8) rfl bk4 0 27 (cT q) (cT q) 50 (hJ.es.at' _ (List.mem_of_getElem? (i := 1) rfl)) (eval_tmp ((hev 8 (by decide)).trans rfl)) ag50 sz50 (Nat.le_of_ble_eq_true (by kernel_rfl)) (by kernel_rfl) (hK _ _ hJ rfl veL_same)⟩
  ·
   exact .inr ⟨rfl, fun K' hK => wp_load 50 (.tmp 8) rfl bk4 0 27 (cT q) (cT q) 50 (hJ.es.at' _ (List.mem_of_getElem? (i := 1) rfl)) (eval_tmp ((hev 8 (by decide)).trans rfl)) ag50 sz50 (Nat.le_of_ble_eq_true (by kernel_rfl)) (by kernel_rfl) (hK _ _ hJ rfl veL_same)⟩
  ·
   exact .inr ⟨rfl, fun K' hK => wp_callv (.func 37) #[.tmp 40, .tmp 41] _ 37 #[] #[.agg (cT q), .agg (cT q)] #[.agg (cT q), .agg (cT q)] rfl rfl (map2 (eval_tmp ((hin 3 40 rfl).trans (congrArg some (show uu 3 = .agg (cT q) from hd 3 (by decide) (by kernel_rfl))))) (eval_tmp ((hin 4 41 rfl).trans (congrArg some (show uu 4 = .agg (cT q) from hd 4 (by decide) (by kernel_rfl)))))) (by kernel_rfl) (fun _ _ => by kernel_rfl) (tMul_any q q ww) (fun _ hB => (hK _ _ (hJ.later hB) rfl (veL_later hB)))⟩
  ·
   exact .inr ⟨rfl, fun K' hK => wp_callv (.func 36) #[.tmp 39, .tmp 42] _ 36 #[] #[.agg (cT (mulT r r)), .agg (cT (mulT q q))] #[.agg (cT (mulT r r)), .agg (cT (mulT q q))] rfl rfl (map2 (eval_tmp ((hin 2 39 rfl).trans (congrArg some (show uu 2 = .agg (cT (mulT r r)) from hd 2 (by decide) (by kernel_rfl))))) (eval_tmp ((hin 5 42 rfl).trans (congrArg some (show uu 5 = .agg (cT (mulT q q)) from hd 5 (by decide) (by kernel_rfl)))))) (by kernel_rfl) (fun _ _ => by kernel_rfl) (Hc.out ww) (fun _ hB => (hK _ _ (hJ.later hB) rfl (veL_later hB)))⟩
  ·
   exact .inr ⟨rfl, fun K' hK => wp_asgn (.tmp 43) rfl (eval_tmp ((hin 6 43 rfl).trans (congrArg some (show uu 6 = .bool true from hd 6 (by decide) (by kernel_rfl))))) (hK _ _ hJ rfl veL_same)⟩
 clear hM
 intro uu W11 hJm hd
 have e_0 : uu 0 = .agg (cT r) := hd 0 (by decide)
 have e_1 : uu 1 = .agg (cT r) := hd 1 (by decide)
 have e_2 : uu 2 = .agg (cT (mulT r r)) := hd 2 (by decide)
 have e_3 : uu 3 = .agg (cT q) := hd 3 (by decide)
 have e_4 : uu 4 = .agg (cT q) := hd 4 (by decide)
 have e_5 : uu 5 = .agg (cT (mulT q q)) := hd 5 (by decide)
 have e_6 : uu 6 = .bool true := hd 6 (by decide)
 have e_7 : uu 7 = .bool true := hd 7 (by decide)
 clear hd
 simp only [layS, Act.put, List.setIfInBounds_toArray, List.set_cons_succ, List.set_cons_zero, Nat.zero_add, Nat.reduceAdd, List.drop_succ_cons, List.drop_zero, List.drop_nil, e_0, e_1, e_2, e_3, e_4, e_5, e_6, e_7]
 clear e_0 e_1 e_2 e_3 e_4 e_5 e_6 e_7
 have hJ11 := hJm.es
 clear hJm
 go_wp2
 obtain ⟨m7_11, hm⟩ : ∃ m, m = W11.heap.size := ⟨_, rfl⟩
 have hM := hJ11.em
 rw [← hm] at hM
 clear hm hJ11
 refine wp_region_z 6 [some 44, some 45, some 46, some 47, some 48, some 17] (veL m7_11 [.eq (.agg (cT r)), .eq (.agg (cS (detT r))), .eq (.agg (cT q)), .eq (.agg (cS (detT q))), .eq (.bool true), .eq (.bool true)]) (Em w m7_11 [(bk5, (cV u), 25), (bk4, (cT q), 50), (bk3, (cT r), 50), (bk2, (cV x), 25), (bk1, (cV v), 25)]) (by kernel_rfl) (by kernel_rfl) (by rfl) (by decide) (by rfl) hM ?_ ?_
 ·
  intro i hl hi uu ww aa hJ hd hev hin
  clear hM
  obtain rfl | rfl | rfl | rfl | rfl | rfl : i = 0 ∨ i = 1 ∨ i = 2 ∨ i = 3 ∨ i = 4 ∨ i = 5 := by omega
  ·
   exact .inr ⟨rfl, fun K' hK => wp_load 50 (.tmp 7) rfl bk3 0 27 (cT r) (cT r) 50 (hJ.es.at' _ (List.mem_of_getElem? (i := 2) rfl)) (eval_tmp ((hev 7 (by decide)).trans rfl)) ag50 sz50 (Nat.le_of_ble_eq_true (by kernel_rfl)) (by kernel_rfl) (hK _ _ hJ rfl veL_same)⟩
  ·
   exact .inr ⟨rfl, fun K' hK => wp_callv (.func 39) #[.tmp 44] _ 39 #[] #[.agg (cT r)] #[.agg (cT r)] rfl rfl (map1 (eval_tmp ((hin 0 44 rfl).trans (congrArg some (show uu 0 = .agg (cT r) from hd 0 (by decide) (by kernel_rfl)))))) (by kernel_rfl) (fun _ _ => by kernel_rfl) (tDet_any r ww) (fun _ hB => (hK _ _ (hJ.later hB) rfl (veL_later hB)))⟩
  ·
   exact .inr ⟨rfl, fun K' hK => wp_load 50 (.tmp 8) rfl bk4 0 27 (cT q) (cT q) 50 (hJ.es.at' _ (List.mem_of_getElem? (i := 1) rfl)) (eval_tmp ((hev 8 (by decide)).trans rfl)) ag50 sz50 (Nat.le_of_ble_eq_true (by kernel_rfl)) (by kernel_rfl) (hK _ _ hJ rfl veL_same)⟩
  ·
   exact .inr ⟨rfl, fun K' hK => wp_callv (.func 39) #[.tmp 46] _ 39 #[] #[.agg (cT q)] #[.agg (cT q)] rfl rfl (map1 (eval_tmp ((hin 2 46 rfl).trans (congrArg some (show uu 2 = .agg (cT q) from hd 2 (by decide) (by kernel_rfl)))))) (by kernel_rfl) (fun _ _ => by kernel_rfl) (tDet_any q ww) (fun _ hB => (hK _ _ (hJ.later hB) rfl (veL_later hB)))⟩
  ·
   exact .inr ⟨rfl, fun K' hK => wp_callv (.func 44) #[.tmp 45, .tmp 47] _ 44 #[] #[.agg (cS (detT r)), .agg (cS (detT q))] #[.agg (cS (detT r)), .agg (cS (detT q))] rfl rfl (map2 (eval_tmp ((hin 1 45 rfl).trans (congrArg some (show uu 1 = .agg (cS (detT r)) from hd 1 (by decide) (by kernel_rfl))))) (eval_tmp ((hin 3 47 rfl).trans (congrArg some (show uu 3 = .agg (cS (detT q)) from hd 3 (by decide) (by kernel_rfl)))))) (by kernel_rfl) (fun _ _ => by kernel_rfl) (Hd.out ww) (fun _ hB => (hK _ _ (hJ.later hB) rfl (veL_later hB)))⟩
  ·
   exact .inr ⟨rfl, fun K' hK => wp_asgn (.tmp 48) rfl (eval_tmp ((hin 4 48 rfl).trans (congrArg some (show uu 4 = .bool true from hd 4 (by decide) (by kernel_rfl))))) (hK _ _ hJ rfl veL_same)⟩
 clear hM
 intro uu W12 hJm hd
 have e_0 : uu 0 = .agg (cT r) := hd 0 (by decide)
 have e_1 : uu 1 = .agg (cS (detT r)) := hd 1 (by decide)
 have e_2 : uu 2 = .agg (cT q) := hd 2 (by decide)
 have e_3 : uu 3 = .agg (cS (detT q)) := hd 3 (by decide)
 have e_4 : uu 4 = .bool true := hd 4 (by decide)
 have e_5 : uu 5 = .bool true := hd 5 (by decide)
 clear hd
 simp only [layS, Act.put, List.setIfInBounds_toArray, List.set_cons_succ, List.set_cons_zero, Nat.zero_add, Nat.reduceAdd, List.drop_succ_cons, List.drop_zero, List.drop_nil, e_0, e_1, e_2, e_3, e_4, e_5]
 clear e_0 e_1 e_2 e_3 e_4 e_5
 have hJ12 := hJm.es
 clear hJm
 go_wp2
 go_ret
 exact ⟨rfl, hJ12.below⟩
theorem RotNarrow_any (v x : Vc) (r q : Tu) (u : Vc) (w : World) : Calls Try.prog 8 #[.agg (cV v), .agg (cV x), .agg (cT r), .agg (cT q), .agg (cV u)] w (PVal (.bool true) w) := by
 have hp := vIn_any v x
 have hs := tIn_any r q
 have ha := tIn_any (expT v) (expT x)
 have hb := vIn_any (appT r u) (appT q u)
 have hc := tIn_any (mulT r r) (mulT q q)
 have hd := In_any (detT r) (detT q)
 cases h1 : inV v x
 ·
  rw [h1] at hp
  cases h2 : inT r q
  ·
   rw [h2] at hs
   exact rn_00 v x u r q _ _ _ _ hp hs ha hb hc hd w
  ·
   rw [h2] at hs
   rw [narrow_app h2] at hb
   rw [narrow_mulT h2] at hc
   rw [narrow_det h2] at hd
   exact rn_01 v x u r q _ hp hs ha hb hc hd w
 ·
  rw [h1] at hp
  rw [narrow_exp h1] at ha
  cases h2 : inT r q
  ·
   rw [h2] at hs
   exact rn_10 v x u r q _ _ _ hp hs ha hb hc hd w
  ·
   rw [h2] at hs
   rw [narrow_app h2] at hb
   rw [narrow_mulT h2] at hc
   rw [narrow_det h2] at hd
   exact rn_11 v x u r q hp hs ha hb hc hd w
end Go.Proofs.Ytdochhhepmlapaa
