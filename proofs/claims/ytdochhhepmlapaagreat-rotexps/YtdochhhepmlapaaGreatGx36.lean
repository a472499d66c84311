/- Parts of the proof. -/
import Derived.Test.YtdochhhepmlapaaGreatGx35
import Derived.Test.YtdochhhepmlapaaGreatGx33
/- The document's turn about a vector. No statement of the seat is proved here. -/
namespace Go.Proofs.YtdochhhepmlapaaGreat
open Go Go.RowKit
set_option maxRecDepth 100000 in
set_option maxHeartbeats 12800000 in
theorem oPlc_any (i : Int) (a k b l : Sp)  (w : World)   : Calls Tryz.prog 43 #[.int .i64 i, .agg (cS a), .agg (cS k), .agg (cS b), .agg (cS l)] w (PVal (.agg (cS (plcS (ofS i i) a k b l))) w) := by
 have hJ0 := es_nil w
 go_enter Tryz.func43, Tryz.ntmps43
 go_wp2_with (refine stop_box 27 (.tmp 1) (cS a) rfl rfl rfl hJ0 (fun bk1 W1 hJ1 => ?_))
 clear hJ0
 unfold Stop
 try simp only [Act.put, List.setIfInBounds_toArray, List.set_cons_succ, List.set_cons_zero]
 go_wp2_with (refine stop_box 27 (.tmp 2) (cS k) rfl rfl rfl hJ1 (fun bk2 W2 hJ2 => ?_))
 clear hJ1
 unfold Stop
 try simp only [Act.put, List.setIfInBounds_toArray, List.set_cons_succ, List.set_cons_zero]
 go_wp2_with (refine stop_box 27 (.tmp 3) (cS b) rfl rfl rfl hJ2 (fun bk3 W3 hJ3 => ?_))
 clear hJ2
 unfold Stop
 try simp only [Act.put, List.setIfInBounds_toArray, List.set_cons_succ, List.set_cons_zero]
 go_wp2_with (refine stop_box 27 (.tmp 4) (cS l) rfl rfl rfl hJ3 (fun bk4 W4 hJ4 => ?_))
 clear hJ3
 unfold Stop
 try simp only [Act.put, List.setIfInBounds_toArray, List.set_cons_succ, List.set_cons_zero]
 go_wp2_with (refine stop_alloc 27 (cS zS) (.agg (cS zS)) rfl rfl zv27 rfl hJ4 (fun bk5 W5 hJ5 => ?_))
 clear hJ4
 unfold Stop
 try simp only [Act.put, List.setIfInBounds_toArray, List.set_cons_succ, List.set_cons_zero]
 go_wp2
 obtain ⟨m1_5, hm⟩ : ∃ m, m = W5.heap.size := ⟨_, rfl⟩
 have hM := hJ5.em
 rw [← hm] at hM
 clear hm hJ5
 refine wp_region_z 11 [some 11, some 12, some 13, some 14, some 15, some 16, some 17, some 18, some 19, some 20, some 21] (veL m1_5 [.eq (.int .i64 i), .eq (.int .i64 i), .eq (.agg (cS (ofS i i))), .eq (.agg (cS a)), .eq (.agg (cS k)), .eq (.agg (cS (mulS a k))), .eq (.agg (cS (addS (ofS i i) (mulS a k)))), .eq (.agg (cS b)), .eq (.agg (cS l)), .eq (.agg (cS (mulS b l))), .eq (.agg (cS (addS (addS (ofS i i) (mulS a k)) (mulS b l))))]) (Em w m1_5 [(bk5, (cS zS), 27), (bk4, (cS l), 27), (bk3, (cS b), 27), (bk2, (cS k), 27), (bk1, (cS a), 27)]) (by kernel_rfl) (by kernel_rfl) (by rfl) (by decide) (by rfl) hM ?_ ?_
 ·
  intro i hl hi uu ww aa hJ hd hev hin
  clear hM
  obtain rfl | rfl | rfl | rfl | rfl | rfl | rfl | rfl | rfl | rfl | rfl : i = 0 ∨ i = 1 ∨ i = 2 ∨ i = 3 ∨ i = 4 ∨ i = 5 ∨ i = 6 ∨ i = 7 ∨ i = 8 ∨ i = 9 ∨ i = 10 := by omega
  ·
   exact .inr ⟨rfl, fun K' hK => wp_move (.tmp 0) rfl (eval_tmp ((hev 0 (by decide)).trans rfl)) (hK _ _ hJ rfl veL_same)⟩
  ·
   exact .inr ⟨rfl, fun K' hK => wp_move (.tmp 0) rfl (eval_tmp ((hev 0 (by decide)).trans rfl)) (hK _ _ hJ rfl veL_same)⟩
  ·
   exact .inr ⟨rfl, fun K' hK => wp_callv (.func 38) #[.tmp 11, .tmp 12] _ 38 #[] #[.int .i64 i, .int .i64 i] #[.int .i64 i, .int .i64 i] rfl rfl (map2 (eval_tmp ((hin 0 11 rfl).trans (congrArg some (show uu 0 = .int .i64 i from hd 0 (by decide) (by kernel_rfl))))) (eval_tmp ((hin 1 12 rfl).trans (congrArg some (show uu 1 = .int .i64 i from hd 1 (by decide) (by kernel_rfl)))))) (by kernel_rfl) (fun _ _ => by kernel_rfl) (rdOf_any i i ww) (fun _ hB => (hK _ _ (hJ.later hB) rfl (veL_later hB)))⟩
  ·
   exact .inr ⟨rfl, fun K' hK => wp_load 27 (.tmp 6) rfl bk1 0 3 (cS a) (cS a) 27 (hJ.es.at' _ (List.mem_of_getElem? (i := 4) rfl)) (eval_tmp ((hev 6 (by decide)).trans rfl)) ag27 sz27 (Nat.le_of_ble_eq_true (by kernel_rfl)) (by kernel_rfl) (hK _ _ hJ rfl veL_same)⟩
  ·
   exact .inr ⟨rfl, fun K' hK => wp_load 27 (.tmp 7) rfl bk2 0 3 (cS k) (cS k) 27 (hJ.es.at' _ (List.mem_of_getElem? (i := 3) rfl)) (eval_tmp ((hev 7 (by decide)).trans rfl)) ag27 sz27 (Nat.le_of_ble_eq_true (by kernel_rfl)) (by kernel_rfl) (hK _ _ hJ rfl veL_same)⟩
  ·
   exact .inr ⟨rfl, fun K' hK => wp_callv (.func 39) #[.tmp 14, .tmp 15] _ 39 #[] #[.agg (cS a), .agg (cS k)] #[.agg (cS a), .agg (cS k)] rfl rfl (map2 (eval_tmp ((hin 3 14 rfl).trans (congrArg some (show uu 3 = .agg (cS a) from hd 3 (by decide) (by kernel_rfl))))) (eval_tmp ((hin 4 15 rfl).trans (congrArg some (show uu 4 = .agg (cS k) from hd 4 (by decide) (by kernel_rfl)))))) (by kernel_rfl) (fun _ _ => by kernel_rfl) (rdMul_any a k ww) (fun _ hB => (hK _ _ (hJ.later hB) rfl (veL_later hB)))⟩
  ·
   exact .inr ⟨rfl, fun K' hK => wp_callv (.func 41) #[.tmp 13, .tmp 16] _ 41 #[] #[.agg (cS (ofS i i)), .agg (cS (mulS a k))] #[.agg (cS (ofS i i)), .agg (cS (mulS a k))] rfl rfl (map2 (eval_tmp ((hin 2 13 rfl).trans (congrArg some (show uu 2 = .agg (cS (ofS i i)) from hd 2 (by decide) (by kernel_rfl))))) (eval_tmp ((hin 5 16 rfl).trans (congrArg some (show uu 5 = .agg (cS (mulS a k)) from hd 5 (by decide) (by kernel_rfl)))))) (by kernel_rfl) (fun _ _ => by kernel_rfl) (rdAdd_any (ofS i i) (mulS a k) ww) (fun _ hB => (hK _ _ (hJ.later hB) rfl (veL_later hB)))⟩
  ·
   exact .inr ⟨rfl, fun K' hK => wp_load 27 (.tmp 8) rfl bk3 0 3 (cS b) (cS b) 27 (hJ.es.at' _ (List.mem_of_getElem? (i := 2) rfl)) (eval_tmp ((hev 8 (by decide)).trans rfl)) ag27 sz27 (Nat.le_of_ble_eq_true (by kernel_rfl)) (by kernel_rfl) (hK _ _ hJ rfl veL_same)⟩
  ·
   exact .inr ⟨rfl, fun K' hK => wp_load 27 (.tmp 9) rfl bk4 0 3 (cS l) (cS l) 27 (hJ.es.at' _ (List.mem_of_getElem? (i := 1) rfl)) (eval_tmp ((hev 9 (by decide)).trans rfl)) ag27 sz27 (Nat.le_of_ble_eq_true (by kernel_rfl)) (by kernel_rfl) (hK _ _ hJ rfl veL_same)⟩
  ·
   exact .inr ⟨rfl, fun K' hK => wp_callv (.func 39) #[.tmp 18, .tmp 19] _ 39 #[] #[.agg (cS b), .agg (cS l)] #[.agg (cS b), .agg (cS l)] rfl rfl (map2 (eval_tmp ((hin 7 18 rfl).trans (congrArg some (show uu 7 = .agg (cS b) from hd 7 (by decide) (by kernel_rfl))))) (eval_tmp ((hin 8 19 rfl).trans (congrArg some (show uu 8 = .agg (cS l) from hd 8 (by decide) (by kernel_rfl)))))) (by kernel_rfl) (fun _ _ => by kernel_rfl) (rdMul_any b l ww) (fun _ hB => (hK _ _ (hJ.later hB) rfl (veL_later hB)))⟩
  ·
   exact .inr ⟨rfl, fun K' hK => wp_callv (.func 41) #[.tmp 17, .tmp 20] _ 41 #[] #[.agg (cS (addS (ofS i i) (mulS a k))), .agg (cS (mulS b l))] #[.agg (cS (addS (ofS i i) (mulS a k))), .agg (cS (mulS b l))] rfl rfl (map2 (eval_tmp ((hin 6 17 rfl).trans (congrArg some (show uu 6 = .agg (cS (addS (ofS i i) (mulS a k))) from hd 6 (by decide) (by kernel_rfl))))) (eval_tmp ((hin 9 20 rfl).trans (congrArg some (show uu 9 = .agg (cS (mulS b l)) from hd 9 (by decide) (by kernel_rfl)))))) (by kernel_rfl) (fun _ _ => by kernel_rfl) (rdAdd_any (addS (ofS i i) (mulS a k)) (mulS b l) ww) (fun _ hB => (hK _ _ (hJ.later hB) rfl (veL_later hB)))⟩
 clear hM
 intro uu W6 hJm hd
 have e_0 : uu 0 = .int .i64 i := hd 0 (by decide)
 have e_1 : uu 1 = .int .i64 i := hd 1 (by decide)
 have e_2 : uu 2 = .agg (cS (ofS i i)) := hd 2 (by decide)
 have e_3 : uu 3 = .agg (cS a) := hd 3 (by decide)
 have e_4 : uu 4 = .agg (cS k) := hd 4 (by decide)
 have e_5 : uu 5 = .agg (cS (mulS a k)) := hd 5 (by decide)
 have e_6 : uu 6 = .agg (cS (addS (ofS i i) (mulS a k))) := hd 6 (by decide)
 have e_7 : uu 7 = .agg (cS b) := hd 7 (by decide)
 have e_8 : uu 8 = .agg (cS l) := hd 8 (by decide)
 have e_9 : uu 9 = .agg (cS (mulS b l)) := hd 9 (by decide)
 have e_10 : uu 10 = .agg (cS (addS (addS (ofS i i) (mulS a k)) (mulS b l))) := hd 10 (by decide)
 clear hd
 simp only [layS, Act.put, List.setIfInBounds_toArray, List.set_cons_succ, List.set_cons_zero, Nat.zero_add, Nat.reduceAdd, List.drop_succ_cons, List.drop_zero, List.drop_nil, e_0, e_1, e_2, e_3, e_4, e_5, e_6, e_7, e_8, e_9, e_10]
 clear e_0 e_1 e_2 e_3 e_4 e_5 e_6 e_7 e_8 e_9 e_10
 have hJ6 := hJm.es
 clear hJm
 go_wp2_with (refine stop_store 27 (.tmp 10) (.tmp 21) 0 bk5 0 (cS zS) 27 3 (cS (addS (addS (ofS i i) (mulS a k)) (mulS b l))).toList (cS (addS (addS (ofS i i) (mulS a k)) (mulS b l))) [(bk5, (cS (addS (addS (ofS i i) (mulS a k)) (mulS b l))), 27), (bk4, (cS l), 27), (bk3, (cS b), 27), (bk2, (cS k), 27), (bk1, (cS a), 27)] rfl rfl rfl rfl sz27 hJ6 rfl (by kernel_rfl) (Nat.le_of_ble_eq_true (by kernel_rfl)) (by kernel_rfl) (by kernel_rfl) (by kernel_rfl) (fun W7 hJ7 => ?_))
 clear hJ6
 unfold Stop
 try simp only [Act.put, List.setIfInBounds_toArray, List.set_cons_succ, List.set_cons_zero]
 go_wp2
 exact bodyPost_ret (v := .agg (cS (addS (addS (ofS i i) (mulS a k)) (mulS b l)))) (results_cell 0 Tryz.results43 hJ7 rfl ag27 sz27 (Nat.le_of_ble_eq_true (by kernel_rfl)) rfl (by kernel_rfl)) rfl ⟨rfl, hJ7.below⟩
set_option maxRecDepth 100000 in
set_option maxHeartbeats 12800000 in
theorem oExp_w (u : Vc) (n a b o xy xz yz s0 s1 s2 p q r xx yy zz m0 m1 m2 r0 r1 r2 k0 k1 k2 k3 k4 k5 k6 k7 k8 : Sp) (hHn : ∀ W : World, Calls Tryz.prog 35 #[.agg (cV u)] W (PVal (.agg (cS n)) W)) (hHa : ∀ W : World, Calls Tryz.prog 36 #[.agg (cS n)] W (PVal (.agg (cS a)) W)) (hHb : ∀ W : World, Calls Tryz.prog 37 #[.agg (cS n)] W (PVal (.agg (cS b)) W)) (hHo : ∀ W : World, Calls Tryz.prog 38 #[.int .i64 0, .int .i64 0] W (PVal (.agg (cS o)) W)) (hHxy : ∀ W : World, Calls Tryz.prog 39 #[.agg (cS u.x), .agg (cS u.y)] W (PVal (.agg (cS xy)) W)) (hHxz : ∀ W : World, Calls Tryz.prog 39 #[.agg (cS u.x), .agg (cS u.z)] W (PVal (.agg (cS xz)) W)) (hHyz : ∀ W : World, Calls Tryz.prog 39 #[.agg (cS u.y), .agg (cS u.z)] W (PVal (.agg (cS yz)) W)) (hHs0 : ∀ W : World, Calls Tryz.prog 40 #[.agg (cS u.x)] W (PVal (.agg (cS s0)) W)) (hHs1 : ∀ W : World, Calls Tryz.prog 40 #[.agg (cS u.y)] W (PVal (.agg (cS s1)) W)) (hHs2 : ∀ W : World, Calls Tryz.prog 40 #[.agg (cS u.z)] W (PVal (.agg (cS s2)) W)) (hHp : ∀ W : World, Calls Tryz.prog 41 #[.agg (cS s1), .agg (cS s2)] W (PVal (.agg (cS p)) W)) (hHq : ∀ W : World, Calls Tryz.prog 41 #[.agg (cS s0), .agg (cS s2)] W (PVal (.agg (cS q)) W)) (hHr : ∀ W : World, Calls Tryz.prog 41 #[.agg (cS s0), .agg (cS s1)] W (PVal (.agg (cS r)) W)) (hHxx : ∀ W : World, Calls Tryz.prog 42 #[.agg (cS p)] W (PVal (.agg (cS xx)) W)) (hHyy : ∀ W : World, Calls Tryz.prog 42 #[.agg (cS q)] W (PVal (.agg (cS yy)) W)) (hHzz : ∀ W : World, Calls Tryz.prog 42 #[.agg (cS r)] W (PVal (.agg (cS zz)) W)) (hHm0 : ∀ W : World, Calls Tryz.prog 42 #[.agg (cS u.x)] W (PVal (.agg (cS m0)) W)) (hHm1 : ∀ W : World, Calls Tryz.prog 42 #[.agg (cS u.y)] W (PVal (.agg (cS m1)) W)) (hHm2 : ∀ W : World, Calls Tryz.prog 42 #[.agg (cS u.z)] W (PVal (.agg (cS m2)) W)) (hHr0 : ∀ W : World, Calls Tryz.prog 44 #[.agg (cS u.x)] W (PVal (.agg (cS r0)) W)) (hHr1 : ∀ W : World, Calls Tryz.prog 44 #[.agg (cS u.y)] W (PVal (.agg (cS r1)) W)) (hHr2 : ∀ W : World, Calls Tryz.prog 44 #[.agg (cS u.z)] W (PVal (.agg (cS r2)) W)) (hHk0 : ∀ W : World, Calls Tryz.prog 43 #[.int .i64 1048576, .agg (cS a), .agg (cS o), .agg (cS b), .agg (cS xx)] W (PVal (.agg (cS k0)) W)) (hHk1 : ∀ W : World, Calls Tryz.prog 43 #[.int .i64 0, .agg (cS a), .agg (cS m2), .agg (cS b), .agg (cS xy)] W (PVal (.agg (cS k1)) W)) (hHk2 : ∀ W : World, Calls Tryz.prog 43 #[.int .i64 0, .agg (cS a), .agg (cS r1), .agg (cS b), .agg (cS xz)] W (PVal (.agg (cS k2)) W)) (hHk3 : ∀ W : World, Calls Tryz.prog 43 #[.int .i64 0, .agg (cS a), .agg (cS r2), .agg (cS b), .agg (cS xy)] W (PVal (.agg (cS k3)) W)) (hHk4 : ∀ W : World, Calls Tryz.prog 43 #[.int .i64 1048576, .agg (cS a), .agg (cS o), .agg (cS b), .agg (cS yy)] W (PVal (.agg (cS k4)) W)) (hHk5 : ∀ W : World, Calls Tryz.prog 43 #[.int .i64 0, .agg (cS a), .agg (cS m0), .agg (cS b), .agg (cS yz)] W (PVal (.agg (cS k5)) W)) (hHk6 : ∀ W : World, Calls Tryz.prog 43 #[.int .i64 0, .agg (cS a), .agg (cS m1), .agg (cS b), .agg (cS xz)] W (PVal (.agg (cS k6)) W)) (hHk7 : ∀ W : World, Calls Tryz.prog 43 #[.int .i64 0, .agg (cS a), .agg (cS r0), .agg (cS b), .agg (cS yz)] W (PVal (.agg (cS k7)) W)) (hHk8 : ∀ W : World, Calls Tryz.prog 43 #[.int .i64 1048576, .agg (cS a), .agg (cS o), .agg (cS b), .agg (cS zz)] W (PVal (.agg (cS k8)) W)) (w : World)   : Calls Tryz.prog 8 #[.agg (cV u)] w (PVal (.agg (cT ⟨⟨k0, k1, k2⟩, ⟨k3, k4, k5⟩, ⟨k6, k7, k8⟩⟩)) w) := by
 have Hn := Lib.hid hHn
 have Ha := Lib.hid hHa
 have Hb := Lib.hid hHb
 have Ho := Lib.hid hHo
 have Hxy := Lib.hid hHxy
 have Hxz := Lib.hid hHxz
 have Hyz := Lib.hid hHyz
 have Hs0 := Lib.hid hHs0
 have Hs1 := Lib.hid hHs1
 have Hs2 := Lib.hid hHs2
 have Hp := Lib.hid hHp
 have Hq := Lib.hid hHq
 have Hr := Lib.hid hHr
 have Hxx := Lib.hid hHxx
 have Hyy := Lib.hid hHyy
 have Hzz := Lib.hid hHzz
 have Hm0 := Lib.hid hHm0
 have Hm1 := Lib.hid hHm1
 have Hm2 := Lib.hid hHm2
 have Hr0 := Lib.hid hHr0
 have Hr1 := Lib.hid hHr1
 have Hr2 := Lib.hid hHr2
 have Hk0 := Lib.hid hHk0
 have Hk1 := Lib.hid hHk1
 have Hk2 := Lib.hid hHk2
 have Hk3 := Lib.hid hHk3
 have Hk4 := Lib.hid hHk4
 have Hk5 := Lib.hid hHk5
 have Hk6 := Lib.hid hHk6
 have Hk7 := Lib.hid hHk7
 have Hk8 := Lib.hid hHk8
 clear hHn hHa hHb hHo hHxy hHxz hHyz hHs0 hHs1 hHs2 hHp hHq hHr hHxx hHyy hHzz hHm0 hHm1 hHm2 hHr0 hHr1 hHr2 hHk0 hHk1 hHk2 hHk3 hHk4 hHk5 hHk6 hHk7 hHk8
 have hJ0 := es_nil w
 go_enter Tryz.func8, Tryz.ntmps8
 go_wp2_with (refine stop_box 29 (.tmp 0) (cV u) rfl rfl rfl hJ0 (fun bk1 W1 hJ1 => ?_))
 clear hJ0
 unfold Stop
 try simp only [Act.put, List.setIfInBounds_toArray, List.set_cons_succ, List.set_cons_zero]
 go_wp2_with (refine stop_alloc 31 (cT zT) (.agg (cT zT)) rfl rfl zv31 rfl hJ1 (fun bk2 W2 hJ2 => ?_))
 clear hJ1
 unfold Stop
 try simp only [Act.put, List.setIfInBounds_toArray, List.set_cons_succ, List.set_cons_zero]
 go_wp2_with (refine stop_op rfl (fun K hK => wp_load 29 (.tmp 1) rfl bk1 0 9 (cV u) (cV u) 29 (hJ2.at' _ (List.mem_of_getElem? (i := 1) rfl)) rfl ag29 sz29 (Nat.le_of_ble_eq_true (by kernel_rfl)) (by kernel_rfl) (hK _ _ ?_)))
 unfold Stop
 try simp only [Act.put, List.setIfInBounds_toArray, List.set_cons_succ, List.set_cons_zero]
 go_wp2_with fail
 refine (Hn.out _).mono ?_
 rintro zz W3 ⟨rfl, hB⟩
 have hJ3 := hJ2.later hB
 clear hB
 clear hJ2
 go_wp2_with (refine stop_alloc 27 (cS zS) (.agg (cS zS)) rfl rfl zv27 rfl hJ3 (fun bk3 W4 hJ4 => ?_))
 clear hJ3
 unfold Stop
 try simp only [Act.put, List.setIfInBounds_toArray, List.set_cons_succ, List.set_cons_zero]
 go_wp2_with (refine stop_store 27 (.tmp 3) (.tmp 15) 0 bk3 0 (cS zS) 27 3 (cS n).toList (cS n) [(bk3, (cS n), 27), (bk2, (cT zT), 31), (bk1, (cV u), 29)] rfl rfl rfl rfl sz27 hJ4 rfl (by kernel_rfl) (Nat.le_of_ble_eq_true (by kernel_rfl)) (by kernel_rfl) (by kernel_rfl) (by kernel_rfl) (fun W5 hJ5 => ?_))
 clear hJ4
 unfold Stop
 try simp only [Act.put, List.setIfInBounds_toArray, List.set_cons_succ, List.set_cons_zero]
 go_wp2_with (refine stop_op rfl (fun K hK => wp_load 27 (.tmp 3) rfl bk3 0 3 (cS n) (cS n) 27 (hJ5.at' _ (List.mem_of_getElem? (i := 0) rfl)) rfl ag27 sz27 (Nat.le_of_ble_eq_true (by kernel_rfl)) (by kernel_rfl) (hK _ _ ?_)))
 unfold Stop
 try simp only [Act.put, List.setIfInBounds_toArray, List.set_cons_succ, List.set_cons_zero]
 go_wp2_with fail
 refine (Ha.out _).mono ?_
 rintro zz W6 ⟨rfl, hB⟩
 have hJ6 := hJ5.later hB
 clear hB
 clear hJ5
 go_wp2_with (refine stop_alloc 27 (cS zS) (.agg (cS zS)) rfl rfl zv27 rfl hJ6 (fun bk4 W7 hJ7 => ?_))
 clear hJ6
 unfold Stop
 try simp only [Act.put, List.setIfInBounds_toArray, List.set_cons_succ, List.set_cons_zero]
 go_wp2_with (refine stop_store 27 (.tmp 4) (.tmp 17) 0 bk4 0 (cS zS) 27 3 (cS a).toList (cS a) [(bk4, (cS a), 27), (bk3, (cS n), 27), (bk2, (cT zT), 31), (bk1, (cV u), 29)] rfl rfl rfl rfl sz27 hJ7 rfl (by kernel_rfl) (Nat.le_of_ble_eq_true (by kernel_rfl)) (by kernel_rfl) (by kernel_rfl) (by kernel_rfl) (fun W8 hJ8 => ?_))
 clear hJ7
 unfold Stop
 try simp only [Act.put, List.setIfInBounds_toArray, List.set_cons_succ, List.set_cons_zero]
 go_wp2_with (refine stop_op rfl (fun K hK => wp_load 27 (.tmp 3) rfl bk3 0 3 (cS n) (cS n) 27 (hJ8.at' _ (List.mem_of_getElem? (i := 1) rfl)) rfl ag27 sz27 (Nat.le_of_ble_eq_true (by kernel_rfl)) (by kernel_rfl) (hK _ _ ?_)))
 unfold Stop
 try simp only [Act.put, List.setIfInBounds_toArray, List.set_cons_succ, List.set_cons_zero]
 go_wp2_with fail
 refine (Hb.out _).mono ?_
 rintro zz W9 ⟨rfl, hB⟩
 have hJ9 := hJ8.later hB
 clear hB
 clear hJ8
 go_wp2_with (refine stop_alloc 27 (cS zS) (.agg (cS zS)) rfl rfl zv27 rfl hJ9 (fun bk5 W10 hJ10 => ?_))
 clear hJ9
 unfold Stop
 try simp only [Act.put, List.setIfInBounds_toArray, List.set_cons_succ, List.set_cons_zero]
 go_wp2_with (refine stop_store 27 (.tmp 5) (.tmp 19) 0 bk5 0 (cS zS) 27 3 (cS b).toList (cS b) [(bk5, (cS b), 27), (bk4, (cS a), 27), (bk3, (cS n), 27), (bk2, (cT zT), 31), (bk1, (cV u), 29)] rfl rfl rfl rfl sz27 hJ10 rfl (by kernel_rfl) (Nat.le_of_ble_eq_true (by kernel_rfl)) (by kernel_rfl) (by kernel_rfl) (by kernel_rfl) (fun W11 hJ11 => ?_))
 clear hJ10
 unfold Stop
 try simp only [Act.put, List.setIfInBounds_toArray, List.set_cons_succ, List.set_cons_zero]
 go_wp2_with fail
 refine (Ho.out _).mono ?_
 rintro zz W12 ⟨rfl, hB⟩
 have hJ12 := hJ11.later hB
 clear hB
 clear hJ11
 go_wp2_with (refine stop_alloc 27 (cS zS) (.agg (cS zS)) rfl rfl zv27 rfl hJ12 (fun bk6 W13 hJ13 => ?_))
 clear hJ12
 unfold Stop
 try simp only [Act.put, List.setIfInBounds_toArray, List.set_cons_succ, List.set_cons_zero]
 go_wp2_with (refine stop_store 27 (.tmp 6) (.tmp 20) 0 bk6 0 (cS zS) 27 3 (cS o).toList (cS o) [(bk6, (cS o), 27), (bk5, (cS b), 27), (bk4, (cS a), 27), (bk3, (cS n), 27), (bk2, (cT zT), 31), (bk1, (cV u), 29)] rfl rfl rfl rfl sz27 hJ13 rfl (by kernel_rfl) (Nat.le_of_ble_eq_true (by kernel_rfl)) (by kernel_rfl) (by kernel_rfl) (by kernel_rfl) (fun W14 hJ14 => ?_))
 clear hJ13
 unfold Stop
 try simp only [Act.put, List.setIfInBounds_toArray, List.set_cons_succ, List.set_cons_zero]
 go_wp2_with (refine stop_op rfl (fun K hK => wp_load 27 (.tmp 21) rfl bk1 0 3 (cV u) (cS u.x) 29 (hJ14.at' _ (List.mem_of_getElem? (i := 5) rfl)) rfl ag27 sz27 (Nat.le_of_ble_eq_true (by kernel_rfl)) (by kernel_rfl) (hK _ _ ?_)))
 unfold Stop
 try simp only [Act.put, List.setIfInBounds_toArray, List.set_cons_succ, List.set_cons_zero]
 go_wp2_with (refine stop_op rfl (fun K hK => wp_load 27 (.tmp 23) rfl bk1 3 3 (cV u) (cS u.y) 29 (hJ14.at' _ (List.mem_of_getElem? (i := 5) rfl)) rfl ag27 sz27 (Nat.le_of_ble_eq_true (by kernel_rfl)) (by kernel_rfl) (hK _ _ ?_)))
 unfold Stop
 try simp only [Act.put, List.setIfInBounds_toArray, List.set_cons_succ, List.set_cons_zero]
 go_wp2_with fail
 refine (Hxy.out _).mono ?_
 rintro zz W15 ⟨rfl, hB⟩
 have hJ15 := hJ14.later hB
 clear hB
 clear hJ14
 go_wp2_with (refine stop_alloc 27 (cS zS) (.agg (cS zS)) rfl rfl zv27 rfl hJ15 (fun bk7 W16 hJ16 => ?_))
 clear hJ15
 unfold Stop
 try simp only [Act.put, List.setIfInBounds_toArray, List.set_cons_succ, List.set_cons_zero]
 go_wp2_with (refine stop_store 27 (.tmp 8) (.tmp 25) 0 bk7 0 (cS zS) 27 3 (cS xy).toList (cS xy) [(bk7, (cS xy), 27), (bk6, (cS o), 27), (bk5, (cS b), 27), (bk4, (cS a), 27), (bk3, (cS n), 27), (bk2, (cT zT), 31), (bk1, (cV u), 29)] rfl rfl rfl rfl sz27 hJ16 rfl (by kernel_rfl) (Nat.le_of_ble_eq_true (by kernel_rfl)) (by kernel_rfl) (by kernel_rfl) (by kernel_rfl) (fun W17 hJ17 => ?_))
 clear hJ16
 unfold Stop
 try simp only [Act.put, List.setIfInBounds_toArray, List.set_cons_succ, List.set_cons_zero]
 go_wp2_with (refine stop_op rfl (fun K hK => wp_load 27 (.tmp 26) rfl bk1 0 3 (cV u) (cS u.x) 29 (hJ17.at' _ (List.mem_of_getElem? (i := 6) rfl)) rfl ag27 sz27 (Nat.le_of_ble_eq_true (by kernel_rfl)) (by kernel_rfl) (hK _ _ ?_)))
 unfold Stop
 try simp only [Act.put, List.setIfInBounds_toArray, List.set_cons_succ, List.set_cons_zero]
 go_wp2_with (refine stop_op rfl (fun K hK => wp_load 27 (.tmp 28) rfl bk1 6 3 (cV u) (cS u.z) 29 (hJ17.at' _ (List.mem_of_getElem? (i := 6) rfl)) rfl ag27 sz27 (Nat.le_of_ble_eq_true (by kernel_rfl)) (by kernel_rfl) (hK _ _ ?_)))
 unfold Stop
 try simp only [Act.put, List.setIfInBounds_toArray, List.set_cons_succ, List.set_cons_zero]
 go_wp2_with fail
 refine (Hxz.out _).mono ?_
 rintro zz W18 ⟨rfl, hB⟩
 have hJ18 := hJ17.later hB
 clear hB
 clear hJ17
 go_wp2_with (refine stop_alloc 27 (cS zS) (.agg (cS zS)) rfl rfl zv27 rfl hJ18 (fun bk8 W19 hJ19 => ?_))
 clear hJ18
 unfold Stop
 try simp only [Act.put, List.setIfInBounds_toArray, List.set_cons_succ, List.set_cons_zero]
 go_wp2_with (refine stop_store 27 (.tmp 9) (.tmp 30) 0 bk8 0 (cS zS) 27 3 (cS xz).toList (cS xz) [(bk8, (cS xz), 27), (bk7, (cS xy), 27), (bk6, (cS o), 27), (bk5, (cS b), 27), (bk4, (cS a), 27), (bk3, (cS n), 27), (bk2, (cT zT), 31), (bk1, (cV u), 29)] rfl rfl rfl rfl sz27 hJ19 rfl (by kernel_rfl) (Nat.le_of_ble_eq_true (by kernel_rfl)) (by kernel_rfl) (by kernel_rfl) (by kernel_rfl) (fun W20 hJ20 => ?_))
 clear hJ19
 unfold Stop
 try simp only [Act.put, List.setIfInBounds_toArray, List.set_cons_succ, List.set_cons_zero]
 go_wp2_with (refine stop_op rfl (fun K hK => wp_load 27 (.tmp 31) rfl bk1 3 3 (cV u) (cS u.y) 29 (hJ20.at' _ (List.mem_of_getElem? (i := 7) rfl)) rfl ag27 sz27 (Nat.le_of_ble_eq_true (by kernel_rfl)) (by kernel_rfl) (hK _ _ ?_)))
 unfold Stop
 try simp only [Act.put, List.setIfInBounds_toArray, List.set_cons_succ, List.set_cons_zero]
 go_wp2_with (refine stop_op rfl (fun K hK => wp_load 27 (.tmp 33) rfl bk1 6 3 (cV u) (cS u.z) 29 (hJ20.at' _ (List.mem_of_getElem? (i := 7) rfl)) rfl ag27 sz27 (Nat.le_of_ble_eq_true (by kernel_rfl)) (by kernel_rfl) (hK _ _ ?_)))
 unfold Stop
 try simp only [Act.put, List.setIfInBounds_toArray, List.set_cons_succ, List.set_cons_zero]
 go_wp2_with fail
 refine (Hyz.out _).mono ?_
 rintro zz W21 ⟨rfl, hB⟩
 have hJ21 := hJ20.later hB
 clear hB
 clear hJ20
 go_wp2_with (refine stop_alloc 27 (cS zS) (.agg (cS zS)) rfl rfl zv27 rfl hJ21 (fun bk9 W22 hJ22 => ?_))
 clear hJ21
 unfold Stop
 try simp only [Act.put, List.setIfInBounds_toArray, List.set_cons_succ, List.set_cons_zero]
 go_wp2_with (refine stop_store 27 (.tmp 10) (.tmp 35) 0 bk9 0 (cS zS) 27 3 (cS yz).toList (cS yz) [(bk9, (cS yz), 27), (bk8, (cS xz), 27), (bk7, (cS xy), 27), (bk6, (cS o), 27), (bk5, (cS b), 27), (bk4, (cS a), 27), (bk3, (cS n), 27), (bk2, (cT zT), 31), (bk1, (cV u), 29)] rfl rfl rfl rfl sz27 hJ22 rfl (by kernel_rfl) (Nat.le_of_ble_eq_true (by kernel_rfl)) (by kernel_rfl) (by kernel_rfl) (by kernel_rfl) (fun W23 hJ23 => ?_))
 clear hJ22
 unfold Stop
 try simp only [Act.put, List.setIfInBounds_toArray, List.set_cons_succ, List.set_cons_zero]
 go_wp2
 obtain ⟨m9_23, hm⟩ : ∃ m, m = W23.heap.size := ⟨_, rfl⟩
 have hM := hJ23.em
 rw [← hm] at hM
 clear hm hJ23
 refine wp_region_z 9 [some 36, some 37, some 38, some 39, some 40, some 41, some 42, some 43, some 11] (veL m9_23 [.eq (.pointer (some ⟨bk1, 3, none⟩)), .eq (.agg (cS u.y)), .eq (.agg (cS s1)), .eq (.pointer (some ⟨bk1, 6, none⟩)), .eq (.agg (cS u.z)), .eq (.agg (cS s2)), .eq (.agg (cS p)), .eq (.agg (cS xx)), .box (cS zS) 27]) (Em w m9_23 [(bk9, (cS yz), 27), (bk8, (cS xz), 27), (bk7, (cS xy), 27), (bk6, (cS o), 27), (bk5, (cS b), 27), (bk4, (cS a), 27), (bk3, (cS n), 27), (bk2, (cT zT), 31), (bk1, (cV u), 29)]) (by kernel_rfl) (by kernel_rfl) (by rfl) (by decide) (by rfl) hM ?_ ?_
 ·
  intro i hl hi uu ww aa hJ hd hev hin
  clear hM
  obtain rfl | rfl | rfl | rfl | rfl | rfl | rfl | rfl | rfl : i = 0 ∨ i = 1 ∨ i = 2 ∨ i = 3 ∨ i = 4 ∨ i = 5 ∨ i = 6 ∨ i = 7 ∨ i = 8 := by omega
  ·
   exact .inr ⟨rfl, fun K' hK => wp_fda 29 (.tmp 1) 1 rfl (eval_tmp ((hev 1 (by decide)).trans rfl)) (fun _ => by kernel_rfl) (hK _ _ hJ rfl veL_same)⟩
  ·
   exact .inr ⟨rfl, fun K' hK => wp_load 27 (.tmp 36) rfl bk1 3 3 (cV u) (cS u.y) 29 (hJ.es.at' _ (List.mem_of_getElem? (i := 8) rfl)) (eval_tmp ((hin 0 36 rfl).trans (congrArg some (show uu 0 = .pointer (some ⟨bk1, 3, none⟩) from hd 0 (by decide) (by kernel_rfl))))) ag27 sz27 (Nat.le_of_ble_eq_true (by kernel_rfl)) (by kernel_rfl) (hK _ _ hJ rfl veL_same)⟩
  ·
   exact .inr ⟨rfl, fun K' hK => wp_callv (.func 40) #[.tmp 37] _ 40 #[] #[.agg (cS u.y)] #[.agg (cS u.y)] rfl rfl (map1 (eval_tmp ((hin 1 37 rfl).trans (congrArg some (show uu 1 = .agg (cS u.y) from hd 1 (by decide) (by kernel_rfl)))))) (by kernel_rfl) (fun _ _ => by kernel_rfl) (Hs1.out ww) (fun _ hB => (hK _ _ (hJ.later hB) rfl (veL_later hB)))⟩
  ·
   exact .inr ⟨rfl, fun K' hK => wp_fda 29 (.tmp 1) 2 rfl (eval_tmp ((hev 1 (by decide)).trans rfl)) (fun _ => by kernel_rfl) (hK _ _ hJ rfl veL_same)⟩
  ·
   exact .inr ⟨rfl, fun K' hK => wp_load 27 (.tmp 39) rfl bk1 6 3 (cV u) (cS u.z) 29 (hJ.es.at' _ (List.mem_of_getElem? (i := 8) rfl)) (eval_tmp ((hin 3 39 rfl).trans (congrArg some (show uu 3 = .pointer (some ⟨bk1, 6, none⟩) from hd 3 (by decide) (by kernel_rfl))))) ag27 sz27 (Nat.le_of_ble_eq_true (by kernel_rfl)) (by kernel_rfl) (hK _ _ hJ rfl veL_same)⟩
  ·
   exact .inr ⟨rfl, fun K' hK => wp_callv (.func 40) #[.tmp 40] _ 40 #[] #[.agg (cS u.z)] #[.agg (cS u.z)] rfl rfl (map1 (eval_tmp ((hin 4 40 rfl).trans (congrArg some (show uu 4 = .agg (cS u.z) from hd 4 (by decide) (by kernel_rfl)))))) (by kernel_rfl) (fun _ _ => by kernel_rfl) (Hs2.out ww) (fun _ hB => (hK _ _ (hJ.later hB) rfl (veL_later hB)))⟩
  ·
   exact .inr ⟨rfl, fun K' hK => wp_callv (.func 41) #[.tmp 38, .tmp 41] _ 41 #[] #[.agg (cS s1), .agg (cS s2)] #[.agg (cS s1), .agg (cS s2)] rfl rfl (map2 (eval_tmp ((hin 2 38 rfl).trans (congrArg some (show uu 2 = .agg (cS s1) from hd 2 (by decide) (by kernel_rfl))))) (eval_tmp ((hin 5 41 rfl).trans (congrArg some (show uu 5 = .agg (cS s2) from hd 5 (by decide) (by kernel_rfl)))))) (by kernel_rfl) (fun _ _ => by kernel_rfl) (Hp.out ww) (fun _ hB => (hK _ _ (hJ.later hB) rfl (veL_later hB)))⟩
  ·
   exact .inr ⟨rfl, fun K' hK => wp_callv (.func 42) #[.tmp 42] _ 42 #[] #[.agg (cS p)] #[.agg (cS p)] rfl rfl (map1 (eval_tmp ((hin 6 42 rfl).trans (congrArg some (show uu 6 = .agg (cS p) from hd 6 (by decide) (by kernel_rfl)))))) (by kernel_rfl) (fun _ _ => by kernel_rfl) (Hxx.out ww) (fun _ hB => (hK _ _ (hJ.later hB) rfl (veL_later hB)))⟩
  ·
   exact .inr ⟨rfl, fun K' hK => wp_alloc 27 rfl (.agg (cS zS)) zv27 (hK _ _ (hJ.later ((Below.refl _ _).alloc (Nat.le_refl _) _)) ⟨ww.heap.size, rfl, hJ.le, heap_new ww _⟩ (veL_later ((Below.refl _ _).alloc (Nat.le_refl _) _)))⟩
 clear hM
 intro uu W24 hJm hd
 have e_0 : uu 0 = .pointer (some ⟨bk1, 3, none⟩) := hd 0 (by decide)
 have e_1 : uu 1 = .agg (cS u.y) := hd 1 (by decide)
 have e_2 : uu 2 = .agg (cS s1) := hd 2 (by decide)
 have e_3 : uu 3 = .pointer (some ⟨bk1, 6, none⟩) := hd 3 (by decide)
 have e_4 : uu 4 = .agg (cS u.z) := hd 4 (by decide)
 have e_5 : uu 5 = .agg (cS s2) := hd 5 (by decide)
 have e_6 : uu 6 = .agg (cS p) := hd 6 (by decide)
 have e_7 : uu 7 = .agg (cS xx) := hd 7 (by decide)
 obtain ⟨bk10, e_8, nge8, nB8⟩ := (show veP m9_23 (.box (cS zS) 27) (uu 8) W24 from hd 8 (by decide))
 clear hd
 simp only [layS, Act.put, List.setIfInBounds_toArray, List.set_cons_succ, List.set_cons_zero, Nat.zero_add, Nat.reduceAdd, List.drop_succ_cons, List.drop_zero, List.drop_nil, e_0, e_1, e_2, e_3, e_4, e_5, e_6, e_7, e_8]
 clear e_0 e_1 e_2 e_3 e_4 e_5 e_6 e_7 e_8
 have hJ24 := hJm.join nge8 nB8
 clear hJm nge8 nB8
 go_wp2_with (refine stop_store 27 (.tmp 11) (.tmp 43) 0 bk10 0 (cS zS) 27 3 (cS xx).toList (cS xx) [(bk10, (cS xx), 27), (bk9, (cS yz), 27), (bk8, (cS xz), 27), (bk7, (cS xy), 27), (bk6, (cS o), 27), (bk5, (cS b), 27), (bk4, (cS a), 27), (bk3, (cS n), 27), (bk2, (cT zT), 31), (bk1, (cV u), 29)] rfl rfl rfl rfl sz27 hJ24 rfl (by kernel_rfl) (Nat.le_of_ble_eq_true (by kernel_rfl)) (by kernel_rfl) (by kernel_rfl) (by kernel_rfl) (fun W25 hJ25 => ?_))
 clear hJ24
 unfold Stop
 try simp only [Act.put, List.setIfInBounds_toArray, List.set_cons_succ, List.set_cons_zero]
 go_wp2
 obtain ⟨m10_25, hm⟩ : ∃ m, m = W25.heap.size := ⟨_, rfl⟩
 have hM := hJ25.em
 rw [← hm] at hM
 clear hm hJ25
 refine wp_region_z 9 [some 44, some 45, some 46, some 47, some 48, some 49, some 50, some 51, some 12] (veL m10_25 [.eq (.pointer (some ⟨bk1, 0, none⟩)), .eq (.agg (cS u.x)), .eq (.agg (cS s0)), .eq (.pointer (some ⟨bk1, 6, none⟩)), .eq (.agg (cS u.z)), .eq (.agg (cS s2)), .eq (.agg (cS q)), .eq (.agg (cS yy)), .box (cS zS) 27]) (Em w m10_25 [(bk10, (cS xx), 27), (bk9, (cS yz), 27), (bk8, (cS xz), 27), (bk7, (cS xy), 27), (bk6, (cS o), 27), (bk5, (cS b), 27), (bk4, (cS a), 27), (bk3, (cS n), 27), (bk2, (cT zT), 31), (bk1, (cV u), 29)]) (by kernel_rfl) (by kernel_rfl) (by rfl) (by decide) (by rfl) hM ?_ ?_
 ·
  intro i hl hi uu ww aa hJ hd hev hin
  clear hM
  obtain rfl | rfl | rfl | rfl | rfl | rfl | rfl | rfl | rfl : i = 0 ∨ i = 1 ∨ i = 2 ∨ i = 3 ∨ i = 4 ∨ i = 5 ∨ i = 6 ∨ i = 7 ∨ i = 8 := by omega
  ·
   exact .inr ⟨rfl, fun K' hK => wp_fda 29 (.tmp 1) 0 rfl (eval_tmp ((hev 1 (by decide)).trans rfl)) (fun _ => by kernel_rfl) (hK _ _ hJ rfl veL_same)⟩
  ·
   exact .inr ⟨rfl, fun K' hK => wp_load 27 (.tmp 44) rfl bk1 0 3 (cV u) (cS u.x) 29 (hJ.es.at' _ (List.mem_of_getElem? (i := 9) rfl)) (eval_tmp ((hin 0 44 rfl).trans (congrArg some (show uu 0 = .pointer (some ⟨bk1, 0, none⟩) from hd 0 (by decide) (by kernel_rfl))))) ag27 sz27 (Nat.le_of_ble_eq_true (by kernel_rfl)) (by kernel_rfl) (hK _ _ hJ rfl veL_same)⟩
  ·
   exact .inr ⟨rfl, fun K' hK => wp_callv (.func 40) #[.tmp 45] _ 40 #[] #[.agg (cS u.x)] #[.agg (cS u.x)] rfl rfl (map1 (eval_tmp ((hin 1 45 rfl).trans (congrArg some (show uu 1 = .agg (cS u.x) from hd 1 (by decide) (by kernel_rfl)))))) (by kernel_rfl) (fun _ _ => by kernel_rfl) (Hs0.out ww) (fun _ hB => (hK _ _ (hJ.later hB) rfl (veL_later hB)))⟩
  ·
   exact .inr ⟨rfl, fun K' hK => wp_fda 29 (.tmp 1) 2 rfl (eval_tmp ((hev 1 (by decide)).trans rfl)) (fun _ => by kernel_rfl) (hK _ _ hJ rfl veL_same)⟩
  ·
   exact .inr ⟨rfl, fun K' hK => wp_load 27 (.tmp 47) rfl bk1 6 3 (cV u) (cS u.z) 29 (hJ.es.at' _ (List.mem_of_getElem? (i := 9) rfl)) (eval_tmp ((hin 3 47 rfl).trans (congrArg some (show uu 3 = .pointer (some ⟨bk1, 6, none⟩) from hd 3 (by decide) (by kernel_rfl))))) ag27 sz27 (Nat.le_of_ble_eq_true (by kernel_rfl)) (by kernel_rfl) (hK _ _ hJ rfl veL_same)⟩
  ·
   exact .inr ⟨rfl, fun K' hK => wp_callv (.func 40) #[.tmp 48] _ 40 #[] #[.agg (cS u.z)] #[.agg (cS u.z)] rfl rfl (map1 (eval_tmp ((hin 4 48 rfl).trans (congrArg some (show uu 4 = .agg (cS u.z) from hd 4 (by decide) (by kernel_rfl)))))) (by kernel_rfl) (fun _ _ => by kernel_rfl) (Hs2.out ww) (fun _ hB => (hK _ _ (hJ.later hB) rfl (veL_later hB)))⟩
  ·
   exact .inr ⟨rfl, fun K' hK => wp_callv (.func 41) #[.tmp 46, .tmp 49] _ 41 #[] #[.agg (cS s0), .agg (cS s2)] #[.agg (cS s0), .agg (cS s2)] rfl rfl (map2 (eval_tmp ((hin 2 46 rfl).trans (congrArg some (show uu 2 = .agg (cS s0) from hd 2 (by decide) (by kernel_rfl))))) (eval_tmp ((hin 5 49 rfl).trans (congrArg some (show uu 5 = .agg (cS s2) from hd 5 (by decide) (by kernel_rfl)))))) (by kernel_rfl) (fun _ _ => by kernel_rfl) (Hq.out ww) (fun _ hB => (hK _ _ (hJ.later hB) rfl (veL_later hB)))⟩
  ·
   exact .inr ⟨rfl, fun K' hK => wp_callv (.func 42) #[.tmp 50] _ 42 #[] #[.agg (cS q)] #[.agg (cS q)] rfl rfl (map1 (eval_tmp ((hin 6 50 rfl).trans (congrArg some (show uu 6 = .agg (cS q) from hd 6 (by decide) (by kernel_rfl)))))) (by kernel_rfl) (fun _ _ => by kernel_rfl) (Hyy.out ww) (fun _ hB => (hK _ _ (hJ.later hB) rfl (veL_later hB)))⟩
  ·
   exact .inr ⟨rfl, fun K' hK => wp_alloc 27 rfl (.agg (cS zS)) zv27 (hK _ _ (hJ.later ((Below.refl _ _).alloc (Nat.le_refl _) _)) ⟨ww.heap.size, rfl, hJ.le, heap_new ww _⟩ (veL_later ((Below.refl _ _).alloc (Nat.le_refl _) _)))⟩
 clear hM
 intro uu W26 hJm hd
 have e_0 : uu 0 = .pointer (some ⟨bk1, 0, none⟩) := hd 0 (by decide)
 have e_1 : uu 1 = .agg (cS u.x) := hd 1 (by decide)
 have e_2 : uu 2 = .agg (cS s0) := hd 2 (by decide)
 have e_3 : uu 3 = .pointer (some ⟨bk1, 6, none⟩) := hd 3 (by decide)
 have e_4 : uu 4 = .agg (cS u.z) := hd 4 (by decide)
 have e_5 : uu 5 = .agg (cS s2) := hd 5 (by decide)
 have e_6 : uu 6 = .agg (cS q) := hd 6 (by decide)
 have e_7 : uu 7 = .agg (cS yy) := hd 7 (by decide)
 obtain ⟨bk11, e_8, nge8, nB8⟩ := (show veP m10_25 (.box (cS zS) 27) (uu 8) W26 from hd 8 (by decide))
 clear hd
 simp only [layS, Act.put, List.setIfInBounds_toArray, List.set_cons_succ, List.set_cons_zero, Nat.zero_add, Nat.reduceAdd, List.drop_succ_cons, List.drop_zero, List.drop_nil, e_0, e_1, e_2, e_3, e_4, e_5, e_6, e_7, e_8]
 clear e_0 e_1 e_2 e_3 e_4 e_5 e_6 e_7 e_8
 have hJ26 := hJm.join nge8 nB8
 clear hJm nge8 nB8
 go_wp2_with (refine stop_store 27 (.tmp 12) (.tmp 51) 0 bk11 0 (cS zS) 27 3 (cS yy).toList (cS yy) [(bk11, (cS yy), 27), (bk10, (cS xx), 27), (bk9, (cS yz), 27), (bk8, (cS xz), 27), (bk7, (cS xy), 27), (bk6, (cS o), 27), (bk5, (cS b), 27), (bk4, (cS a), 27), (bk3, (cS n), 27), (bk2, (cT zT), 31), (bk1, (cV u), 29)] rfl rfl rfl rfl sz27 hJ26 rfl (by kernel_rfl) (Nat.le_of_ble_eq_true (by kernel_rfl)) (by kernel_rfl) (by kernel_rfl) (by kernel_rfl) (fun W27 hJ27 => ?_))
 clear hJ26
 unfold Stop
 try simp only [Act.put, List.setIfInBounds_toArray, List.set_cons_succ, List.set_cons_zero]
 go_wp2
 obtain ⟨m11_27, hm⟩ : ∃ m, m = W27.heap.size := ⟨_, rfl⟩
 have hM := hJ27.em
 rw [← hm] at hM
 clear hm hJ27
 refine wp_region_z 9 [some 52, some 53, some 54, some 55, some 56, some 57, some 58, some 59, some 13] (veL m11_27 [.eq (.pointer (some ⟨bk1, 0, none⟩)), .eq (.agg (cS u.x)), .eq (.agg (cS s0)), .eq (.pointer (some ⟨bk1, 3, none⟩)), .eq (.agg (cS u.y)), .eq (.agg (cS s1)), .eq (.agg (cS r)), .eq (.agg (cS zz)), .box (cS zS) 27]) (Em w m11_27 [(bk11, (cS yy), 27), (bk10, (cS xx), 27), (bk9, (cS yz), 27), (bk8, (cS xz), 27), (bk7, (cS xy), 27), (bk6, (cS o), 27), (bk5, (cS b), 27), (bk4, (cS a), 27), (bk3, (cS n), 27), (bk2, (cT zT), 31), (bk1, (cV u), 29)]) (by kernel_rfl) (by kernel_rfl) (by rfl) (by decide) (by rfl) hM ?_ ?_
 ·
  intro i hl hi uu ww aa hJ hd hev hin
  clear hM
  obtain rfl | rfl | rfl | rfl | rfl | rfl | rfl | rfl | rfl : i = 0 ∨ i = 1 ∨ i = 2 ∨ i = 3 ∨ i = 4 ∨ i = 5 ∨ i = 6 ∨ i = 7 ∨ i = 8 := by omega
  ·
   exact .inr ⟨rfl, fun K' hK => wp_fda 29 (.tmp 1) 0 rfl (eval_tmp ((hev 1 (by decide)).trans rfl)) (fun _ => by kernel_rfl) (hK _ _ hJ rfl veL_same)⟩
  ·
   exact .inr ⟨rfl, fun K' hK => wp_load 27 (.tmp 52) rfl bk1 0 3 (cV u) (cS u.x) 29 (hJ.es.at' _ (List.mem_of_getElem? (i := 10) rfl)) (eval_tmp ((hin 0 52 rfl).trans (congrArg some (show uu 0 = .pointer (some ⟨bk1, 0, none⟩) from hd 0 (by decide) (by kernel_rfl))))) ag27 sz27 (Nat.le_of_ble_eq_true (by kernel_rfl)) (by kernel_rfl) (hK _ _ hJ rfl veL_same)⟩
  ·
   exact .inr ⟨rfl, fun K' hK => wp_callv (.func 40) #[.tmp 53] _ 40 #[] #[.agg (cS u.x)] #[.agg (cS u.x)] rfl rfl (map1 (eval_tmp ((hin 1 53 rfl).trans (congrArg some (show uu 1 = .agg (cS u.x) from hd 1 (by decide) (by kernel_rfl)))))) (by kernel_rfl) (fun _ _ => by kernel_rfl) (Hs0.out ww) (fun _ hB => (hK _ _ (hJ.later hB) rfl (veL_later hB)))⟩
  ·
   exact .inr ⟨rfl, fun K' hK => wp_fda 29 (.tmp 1) 1 rfl (eval_tmp ((hev 1 (by decide)).trans rfl)) (fun _ => by kernel_rfl) (hK _ _ hJ rfl veL_same)⟩
  ·
   exact .inr ⟨rfl, fun K' hK => wp_load 27 (.tmp 55) rfl bk1 3 3 (cV u) (cS u.y) 29 (hJ.es.at' _ (List.mem_of_getElem? (i := 10) rfl)) (eval_tmp ((hin 3 55 rfl).trans (congrArg some (show uu 3 = .pointer (some ⟨bk1, 3, none⟩) from hd 3 (by decide) (by kernel_rfl))))) ag27 sz27 (Nat.le_of_ble_eq_true (by kernel_rfl)) (by kernel_rfl) (hK _ _ hJ rfl veL_same)⟩
  ·
   exact .inr ⟨rfl, fun K' hK => wp_callv (.func 40) #[.tmp 56] _ 40 #[] #[.agg (cS u.y)] #[.agg (cS u.y)] rfl rfl (map1 (eval_tmp ((hin 4 56 rfl).trans (congrArg some (show uu 4 = .agg (cS u.y) from hd 4 (by decide) (by kernel_rfl)))))) (by kernel_rfl) (fun _ _ => by kernel_rfl) (Hs1.out ww) (fun _ hB => (hK _ _ (hJ.later hB) rfl (veL_later hB)))⟩
  ·
   exact .inr ⟨rfl, fun K' hK => wp_callv (.func 41) #[.tmp 54, .tmp 57] _ 41 #[] #[.agg (cS s0), .agg (cS s1)] #[.agg (cS s0), .agg (cS s1)] rfl rfl (map2 (eval_tmp ((hin 2 54 rfl).trans (congrArg some (show uu 2 = .agg (cS s0) from hd 2 (by decide) (by kernel_rfl))))) (eval_tmp ((hin 5 57 rfl).trans (congrArg some (show uu 5 = .agg (cS s1) from hd 5 (by decide) (by kernel_rfl)))))) (by kernel_rfl) (fun _ _ => by kernel_rfl) (Hr.out ww) (fun _ hB => (hK _ _ (hJ.later hB) rfl (veL_later hB)))⟩
  ·
   exact .inr ⟨rfl, fun K' hK => wp_callv (.func 42) #[.tmp 58] _ 42 #[] #[.agg (cS r)] #[.agg (cS r)] rfl rfl (map1 (eval_tmp ((hin 6 58 rfl).trans (congrArg some (show uu 6 = .agg (cS r) from hd 6 (by decide) (by kernel_rfl)))))) (by kernel_rfl) (fun _ _ => by kernel_rfl) (Hzz.out ww) (fun _ hB => (hK _ _ (hJ.later hB) rfl (veL_later hB)))⟩
  ·
   exact .inr ⟨rfl, fun K' hK => wp_alloc 27 rfl (.agg (cS zS)) zv27 (hK _ _ (hJ.later ((Below.refl _ _).alloc (Nat.le_refl _) _)) ⟨ww.heap.size, rfl, hJ.le, heap_new ww _⟩ (veL_later ((Below.refl _ _).alloc (Nat.le_refl _) _)))⟩
 clear hM
 intro uu W28 hJm hd
 have e_0 : uu 0 = .pointer (some ⟨bk1, 0, none⟩) := hd 0 (by decide)
 have e_1 : uu 1 = .agg (cS u.x) := hd 1 (by decide)
 have e_2 : uu 2 = .agg (cS s0) := hd 2 (by decide)
 have e_3 : uu 3 = .pointer (some ⟨bk1, 3, none⟩) := hd 3 (by decide)
 have e_4 : uu 4 = .agg (cS u.y) := hd 4 (by decide)
 have e_5 : uu 5 = .agg (cS s1) := hd 5 (by decide)
 have e_6 : uu 6 = .agg (cS r) := hd 6 (by decide)
 have e_7 : uu 7 = .agg (cS zz) := hd 7 (by decide)
 obtain ⟨bk12, e_8, nge8, nB8⟩ := (show veP m11_27 (.box (cS zS) 27) (uu 8) W28 from hd 8 (by decide))
 clear hd
 simp only [layS, Act.put, List.setIfInBounds_toArray, List.set_cons_succ, List.set_cons_zero, Nat.zero_add, Nat.reduceAdd, List.drop_succ_cons, List.drop_zero, List.drop_nil, e_0, e_1, e_2, e_3, e_4, e_5, e_6, e_7, e_8]
 clear e_0 e_1 e_2 e_3 e_4 e_5 e_6 e_7 e_8
 have hJ28 := hJm.join nge8 nB8
 clear hJm nge8 nB8
 go_wp2_with (refine stop_store 27 (.tmp 13) (.tmp 59) 0 bk12 0 (cS zS) 27 3 (cS zz).toList (cS zz) [(bk12, (cS zz), 27), (bk11, (cS yy), 27), (bk10, (cS xx), 27), (bk9, (cS yz), 27), (bk8, (cS xz), 27), (bk7, (cS xy), 27), (bk6, (cS o), 27), (bk5, (cS b), 27), (bk4, (cS a), 27), (bk3, (cS n), 27), (bk2, (cT zT), 31), (bk1, (cV u), 29)] rfl rfl rfl rfl sz27 hJ28 rfl (by kernel_rfl) (Nat.le_of_ble_eq_true (by kernel_rfl)) (by kernel_rfl) (by kernel_rfl) (by kernel_rfl) (fun W29 hJ29 => ?_))
 clear hJ28
 unfold Stop
 try simp only [Act.put, List.setIfInBounds_toArray, List.set_cons_succ, List.set_cons_zero]
 go_wp2
 obtain ⟨m12_29, hm⟩ : ∃ m, m = W29.heap.size := ⟨_, rfl⟩
 have hM := hJ29.em
 rw [← hm] at hM
 clear hm hJ29
 refine wp_region_z 64 [some 60, some 61, some 62, some 63, some 64, some 65, some 66, some 67, some 68, some 69, some 70, some 71, some 72, some 73, some 74, some 75, some 76, some 77, some 78, some 79, some 80, some 81, some 82, some 83, some 84, some 85, some 86, some 87, some 88, some 89, some 90, some 91, some 92, some 93, some 94, some 95, some 96, some 97, some 98, some 99, some 100, some 101, some 102, some 103, some 104, some 105, some 106, some 107, some 108, some 109, some 110, some 111, some 112, some 113, some 114, some 115, some 116, some 117, some 118, some 119, some 120, some 121, some 122, some 123] (veL m12_29 [.eq (.int .i64 1048576), .eq (.agg (cS a)), .eq (.agg (cS o)), .eq (.agg (cS b)), .eq (.agg (cS xx)), .eq (.agg (cS k0)), .eq (.agg (cS a)), .eq (.pointer (some ⟨bk1, 6, none⟩)), .eq (.agg (cS u.z)), .eq (.agg (cS m2)), .eq (.agg (cS b)), .eq (.agg (cS xy)), .eq (.agg (cS k1)), .eq (.agg (cS a)), .eq (.pointer (some ⟨bk1, 3, none⟩)), .eq (.agg (cS u.y)), .eq (.agg (cS r1)), .eq (.agg (cS b)), .eq (.agg (cS xz)), .eq (.agg (cS k2)), .eq (.agg (cV ⟨k0, k1, k2⟩)), .eq (.agg (cS a)), .eq (.pointer (some ⟨bk1, 6, none⟩)), .eq (.agg (cS u.z)), .eq (.agg (cS r2)), .eq (.agg (cS b)), .eq (.agg (cS xy)), .eq (.agg (cS k3)), .eq (.int .i64 1048576), .eq (.agg (cS a)), .eq (.agg (cS o)), .eq (.agg (cS b)), .eq (.agg (cS yy)), .eq (.agg (cS k4)), .eq (.agg (cS a)), .eq (.pointer (some ⟨bk1, 0, none⟩)), .eq (.agg (cS u.x)), .eq (.agg (cS m0)), .eq (.agg (cS b)), .eq (.agg (cS yz)), .eq (.agg (cS k5)), .eq (.agg (cV ⟨k3, k4, k5⟩)), .eq (.agg (cS a)), .eq (.pointer (some ⟨bk1, 3, none⟩)), .eq (.agg (cS u.y)), .eq (.agg (cS m1)), .eq (.agg (cS b)), .eq (.agg (cS xz)), .eq (.agg (cS k6)), .eq (.agg (cS a)), .eq (.pointer (some ⟨bk1, 0, none⟩)), .eq (.agg (cS u.x)), .eq (.agg (cS r0)), .eq (.agg (cS b)), .eq (.agg (cS yz)), .eq (.agg (cS k7)), .eq (.int .i64 1048576), .eq (.agg (cS a)), .eq (.agg (cS o)), .eq (.agg (cS b)), .eq (.agg (cS zz)), .eq (.agg (cS k8)), .eq (.agg (cV ⟨k6, k7, k8⟩)), .eq (.agg (cT ⟨⟨k0, k1, k2⟩, ⟨k3, k4, k5⟩, ⟨k6, k7, k8⟩⟩))]) (Em w m12_29 [(bk12, (cS zz), 27), (bk11, (cS yy), 27), (bk10, (cS xx), 27), (bk9, (cS yz), 27), (bk8, (cS xz), 27), (bk7, (cS xy), 27), (bk6, (cS o), 27), (bk5, (cS b), 27), (bk4, (cS a), 27), (bk3, (cS n), 27), (bk2, (cT zT), 31), (bk1, (cV u), 29)]) (by kernel_rfl) (by kernel_rfl) (by rfl) (by decide) (by rfl) hM ?_ ?_
 ·
  intro i hl hi uu ww aa hJ hd hev hin
  clear hM
  obtain rfl | rfl | rfl | rfl | rfl | rfl | rfl | rfl | rfl | rfl | rfl | rfl | rfl | rfl | rfl | rfl | rfl | rfl | rfl | rfl | rfl | rfl | rfl | rfl | rfl | rfl | rfl | rfl | rfl | rfl | rfl | rfl | rfl | rfl | rfl | rfl | rfl | rfl | rfl | rfl | rfl | rfl | rfl | rfl | rfl | rfl | rfl | rfl | rfl | rfl | rfl | rfl | rfl | rfl | rfl | rfl | rfl | rfl | rfl | rfl | rfl | rfl | rfl | rfl : i = 0 ∨ i = 1 ∨ i = 2 ∨ i = 3 ∨ i = 4 ∨ i = 5 ∨ i = 6 ∨ i = 7 ∨ i = 8 ∨ i = 9 ∨ i = 10 ∨ i = 11 ∨ i = 12 ∨ i = 13 ∨ i = 14 ∨ i = 15 ∨ i = 16 ∨ i = 17 ∨ i = 18 ∨ i = 19 ∨ i = 20 ∨ i = 21 ∨ i = 22 ∨ i = 23 ∨ i = 24 ∨ i = 25 ∨ i = 26 ∨ i = 27 ∨ i = 28 ∨ i = 29 ∨ i = 30 ∨ i = 31 ∨ i = 32 ∨ i = 33 ∨ i = 34 ∨ i = 35 ∨ i = 36 ∨ i = 37 ∨ i = 38 ∨ i = 39 ∨ i = 40 ∨ i = 41 ∨ i = 42 ∨ i = 43 ∨ i = 44 ∨ i = 45 ∨ i = 46 ∨ i = 47 ∨ i = 48 ∨ i = 49 ∨ i = 50 ∨ i = 51 ∨ i = 52 ∨ i = 53 ∨ i = 54 ∨ i = 55 ∨ i = 56 ∨ i = 57 ∨ i = 58 ∨ i = 59 ∨ i = 60 ∨ i = 61 ∨ i = 62 ∨ i = 63 := by omega
  ·
   exact .inr ⟨rfl, fun K' hK => wp_move (.tmp 7) rfl (eval_tmp ((hev 7 (by decide)).trans rfl)) (hK _ _ hJ rfl veL_same)⟩
  ·
   exact .inr ⟨rfl, fun K' hK => wp_load 27 (.tmp 4) rfl bk4 0 3 (cS a) (cS a) 27 (hJ.es.at' _ (List.mem_of_getElem? (i := 8) rfl)) (eval_tmp ((hev 4 (by decide)).trans rfl)) ag27 sz27 (Nat.le_of_ble_eq_true (by kernel_rfl)) (by kernel_rfl) (hK _ _ hJ rfl veL_same)⟩
  ·
   exact .inr ⟨rfl, fun K' hK => wp_load 27 (.tmp 6) rfl bk6 0 3 (cS o) (cS o) 27 (hJ.es.at' _ (List.mem_of_getElem? (i := 6) rfl)) (eval_tmp ((hev 6 (by decide)).trans rfl)) ag27 sz27 (Nat.le_of_ble_eq_true (by kernel_rfl)) (by kernel_rfl) (hK _ _ hJ rfl veL_same)⟩
  ·
   exact .inr ⟨rfl, fun K' hK => wp_load 27 (.tmp 5) rfl bk5 0 3 (cS b) (cS b) 27 (hJ.es.at' _ (List.mem_of_getElem? (i := 7) rfl)) (eval_tmp ((hev 5 (by decide)).trans rfl)) ag27 sz27 (Nat.le_of_ble_eq_true (by kernel_rfl)) (by kernel_rfl) (hK _ _ hJ rfl veL_same)⟩
  ·
   exact .inr ⟨rfl, fun K' hK => wp_load 27 (.tmp 11) rfl bk10 0 3 (cS xx) (cS xx) 27 (hJ.es.at' _ (List.mem_of_getElem? (i := 2) rfl)) (eval_tmp ((hev 11 (by decide)).trans rfl)) ag27 sz27 (Nat.le_of_ble_eq_true (by kernel_rfl)) (by kernel_rfl) (hK _ _ hJ rfl veL_same)⟩
  ·
   exact .inr ⟨rfl, fun K' hK => wp_callv (.func 43) #[.tmp 60, .tmp 61, .tmp 62, .tmp 63, .tmp 64] _ 43 #[] #[.int .i64 1048576, .agg (cS a), .agg (cS o), .agg (cS b), .agg (cS xx)] #[.int .i64 1048576, .agg (cS a), .agg (cS o), .agg (cS b), .agg (cS xx)] rfl rfl (map5 (eval_tmp ((hin 0 60 rfl).trans (congrArg some (show uu 0 = .int .i64 1048576 from hd 0 (by decide) (by kernel_rfl))))) (eval_tmp ((hin 1 61 rfl).trans (congrArg some (show uu 1 = .agg (cS a) from hd 1 (by decide) (by kernel_rfl))))) (eval_tmp ((hin 2 62 rfl).trans (congrArg some (show uu 2 = .agg (cS o) from hd 2 (by decide) (by kernel_rfl))))) (eval_tmp ((hin 3 63 rfl).trans (congrArg some (show uu 3 = .agg (cS b) from hd 3 (by decide) (by kernel_rfl))))) (eval_tmp ((hin 4 64 rfl).trans (congrArg some (show uu 4 = .agg (cS xx) from hd 4 (by decide) (by kernel_rfl)))))) (by kernel_rfl) (fun _ _ => by kernel_rfl) (Hk0.out ww) (fun _ hB => (hK _ _ (hJ.later hB) rfl (veL_later hB)))⟩
  ·
   exact .inr ⟨rfl, fun K' hK => wp_load 27 (.tmp 4) rfl bk4 0 3 (cS a) (cS a) 27 (hJ.es.at' _ (List.mem_of_getElem? (i := 8) rfl)) (eval_tmp ((hev 4 (by decide)).trans rfl)) ag27 sz27 (Nat.le_of_ble_eq_true (by kernel_rfl)) (by kernel_rfl) (hK _ _ hJ rfl veL_same)⟩
  ·
   exact .inr ⟨rfl, fun K' hK => wp_fda 29 (.tmp 1) 2 rfl (eval_tmp ((hev 1 (by decide)).trans rfl)) (fun _ => by kernel_rfl) (hK _ _ hJ rfl veL_same)⟩
  ·
   exact .inr ⟨rfl, fun K' hK => wp_load 27 (.tmp 67) rfl bk1 6 3 (cV u) (cS u.z) 29 (hJ.es.at' _ (List.mem_of_getElem? (i := 11) rfl)) (eval_tmp ((hin 7 67 rfl).trans (congrArg some (show uu 7 = .pointer (some ⟨bk1, 6, none⟩) from hd 7 (by decide) (by kernel_rfl))))) ag27 sz27 (Nat.le_of_ble_eq_true (by kernel_rfl)) (by kernel_rfl) (hK _ _ hJ rfl veL_same)⟩
  ·
   exact .inr ⟨rfl, fun K' hK => wp_callv (.func 42) #[.tmp 68] _ 42 #[] #[.agg (cS u.z)] #[.agg (cS u.z)] rfl rfl (map1 (eval_tmp ((hin 8 68 rfl).trans (congrArg some (show uu 8 = .agg (cS u.z) from hd 8 (by decide) (by kernel_rfl)))))) (by kernel_rfl) (fun _ _ => by kernel_rfl) (Hm2.out ww) (fun _ hB => (hK _ _ (hJ.later hB) rfl (veL_later hB)))⟩
  ·
   exact .inr ⟨rfl, fun K' hK => wp_load 27 (.tmp 5) rfl bk5 0 3 (cS b) (cS b) 27 (hJ.es.at' _ (List.mem_of_getElem? (i := 7) rfl)) (eval_tmp ((hev 5 (by decide)).trans rfl)) ag27 sz27 (Nat.le_of_ble_eq_true (by kernel_rfl)) (by kernel_rfl) (hK _ _ hJ rfl veL_same)⟩
  ·
   exact .inr ⟨rfl, fun K' hK => wp_load 27 (.tmp 8) rfl bk7 0 3 (cS xy) (cS xy) 27 (hJ.es.at' _ (List.mem_of_getElem? (i := 5) rfl)) (eval_tmp ((hev 8 (by decide)).trans rfl)) ag27 sz27 (Nat.le_of_ble_eq_true (by kernel_rfl)) (by kernel_rfl) (hK _ _ hJ rfl veL_same)⟩
  ·
   exact .inr ⟨rfl, fun K' hK => wp_callv (.func 43) #[.const (.int .i64 0), .tmp 66, .tmp 69, .tmp 70, .tmp 71] _ 43 #[] #[.int .i64 0, .agg (cS a), .agg (cS m2), .agg (cS b), .agg (cS xy)] #[.int .i64 0, .agg (cS a), .agg (cS m2), .agg (cS b), .agg (cS xy)] rfl rfl (map5 rfl (eval_tmp ((hin 6 66 rfl).trans (congrArg some (show uu 6 = .agg (cS a) from hd 6 (by decide) (by kernel_rfl))))) (eval_tmp ((hin 9 69 rfl).trans (congrArg some (show uu 9 = .agg (cS m2) from hd 9 (by decide) (by kernel_rfl))))) (eval_tmp ((hin 10 70 rfl).trans (congrArg some (show uu 10 = .agg (cS b) from hd 10 (by decide) (by kernel_rfl))))) (eval_tmp ((hin 11 71 rfl).trans (congrArg some (show uu 11 = .agg (cS xy) from hd 11 (by decide) (by kernel_rfl)))))) (by kernel_rfl) (fun _ _ => by kernel_rfl) (Hk1.out ww) (fun _ hB => (hK _ _ (hJ.later hB) rfl (veL_later hB)))⟩
  ·
   exact .inr ⟨rfl, fun K' hK => wp_load 27 (.tmp 4) rfl bk4 0 3 (cS a) (cS a) 27 (hJ.es.at' _ (List.mem_of_getElem? (i := 8) rfl)) (eval_tmp ((hev 4 (by decide)).trans rfl)) ag27 sz27 (Nat.le_of_ble_eq_true (by kernel_rfl)) (by kernel_rfl) (hK _ _ hJ rfl veL_same)⟩
  ·
   exact .inr ⟨rfl, fun K' hK => wp_fda 29 (.tmp 1) 1 rfl (eval_tmp ((hev 1 (by decide)).trans rfl)) (fun _ => by kernel_rfl) (hK _ _ hJ rfl veL_same)⟩
  ·
   exact .inr ⟨rfl, fun K' hK => wp_load 27 (.tmp 74) rfl bk1 3 3 (cV u) (cS u.y) 29 (hJ.es.at' _ (List.mem_of_getElem? (i := 11) rfl)) (eval_tmp ((hin 14 74 rfl).trans (congrArg some (show uu 14 = .pointer (some ⟨bk1, 3, none⟩) from hd 14 (by decide) (by kernel_rfl))))) ag27 sz27 (Nat.le_of_ble_eq_true (by kernel_rfl)) (by kernel_rfl) (hK _ _ hJ rfl veL_same)⟩
  ·
   exact .inr ⟨rfl, fun K' hK => wp_callv (.func 44) #[.tmp 75] _ 44 #[] #[.agg (cS u.y)] #[.agg (cS u.y)] rfl rfl (map1 (eval_tmp ((hin 15 75 rfl).trans (congrArg some (show uu 15 = .agg (cS u.y) from hd 15 (by decide) (by kernel_rfl)))))) (by kernel_rfl) (fun _ _ => by kernel_rfl) (Hr1.out ww) (fun _ hB => (hK _ _ (hJ.later hB) rfl (veL_later hB)))⟩
  ·
   exact .inr ⟨rfl, fun K' hK => wp_load 27 (.tmp 5) rfl bk5 0 3 (cS b) (cS b) 27 (hJ.es.at' _ (List.mem_of_getElem? (i := 7) rfl)) (eval_tmp ((hev 5 (by decide)).trans rfl)) ag27 sz27 (Nat.le_of_ble_eq_true (by kernel_rfl)) (by kernel_rfl) (hK _ _ hJ rfl veL_same)⟩
  ·
   exact .inr ⟨rfl, fun K' hK => wp_load 27 (.tmp 9) rfl bk8 0 3 (cS xz) (cS xz) 27 (hJ.es.at' _ (List.mem_of_getElem? (i := 4) rfl)) (eval_tmp ((hev 9 (by decide)).trans rfl)) ag27 sz27 (Nat.le_of_ble_eq_true (by kernel_rfl)) (by kernel_rfl) (hK _ _ hJ rfl veL_same)⟩
  ·
   exact .inr ⟨rfl, fun K' hK => wp_callv (.func 43) #[.const (.int .i64 0), .tmp 73, .tmp 76, .tmp 77, .tmp 78] _ 43 #[] #[.int .i64 0, .agg (cS a), .agg (cS r1), .agg (cS b), .agg (cS xz)] #[.int .i64 0, .agg (cS a), .agg (cS r1), .agg (cS b), .agg (cS xz)] rfl rfl (map5 rfl (eval_tmp ((hin 13 73 rfl).trans (congrArg some (show uu 13 = .agg (cS a) from hd 13 (by decide) (by kernel_rfl))))) (eval_tmp ((hin 16 76 rfl).trans (congrArg some (show uu 16 = .agg (cS r1) from hd 16 (by decide) (by kernel_rfl))))) (eval_tmp ((hin 17 77 rfl).trans (congrArg some (show uu 17 = .agg (cS b) from hd 17 (by decide) (by kernel_rfl))))) (eval_tmp ((hin 18 78 rfl).trans (congrArg some (show uu 18 = .agg (cS xz) from hd 18 (by decide) (by kernel_rfl)))))) (by kernel_rfl) (fun _ _ => by kernel_rfl) (Hk2.out ww) (fun _ hB => (hK _ _ (hJ.later hB) rfl (veL_later hB)))⟩
  ·
   exact .inr ⟨rfl, fun K' hK => wp_bld 29 #[(0, .tmp 65), (1, .tmp 72), (2, .tmp 79)] rfl (bmap3 (eval_tmp ((hin 5 65 rfl).trans (congrArg some (show uu 5 = .agg (cS k0) from hd 5 (by decide) (by kernel_rfl))))) (eval_tmp ((hin 12 72 rfl).trans (congrArg some (show uu 12 = .agg (cS k1) from hd 12 (by decide) (by kernel_rfl))))) (eval_tmp ((hin 19 79 rfl).trans (congrArg some (show uu 19 = .agg (cS k2) from hd 19 (by decide) (by kernel_rfl)))))) (fun _ => by kernel_rfl) (hK _ _ hJ rfl veL_same)⟩
  ·
   exact .inr ⟨rfl, fun K' hK => wp_load 27 (.tmp 4) rfl bk4 0 3 (cS a) (cS a) 27 (hJ.es.at' _ (List.mem_of_getElem? (i := 8) rfl)) (eval_tmp ((hev 4 (by decide)).trans rfl)) ag27 sz27 (Nat.le_of_ble_eq_true (by kernel_rfl)) (by kernel_rfl) (hK _ _ hJ rfl veL_same)⟩
  ·
   exact .inr ⟨rfl, fun K' hK => wp_fda 29 (.tmp 1) 2 rfl (eval_tmp ((hev 1 (by decide)).trans rfl)) (fun _ => by kernel_rfl) (hK _ _ hJ rfl veL_same)⟩
  ·
   exact .inr ⟨rfl, fun K' hK => wp_load 27 (.tmp 82) rfl bk1 6 3 (cV u) (cS u.z) 29 (hJ.es.at' _ (List.mem_of_getElem? (i := 11) rfl)) (eval_tmp ((hin 22 82 rfl).trans (congrArg some (show uu 22 = .pointer (some ⟨bk1, 6, none⟩) from hd 22 (by decide) (by kernel_rfl))))) ag27 sz27 (Nat.le_of_ble_eq_true (by kernel_rfl)) (by kernel_rfl) (hK _ _ hJ rfl veL_same)⟩
  ·
   exact .inr ⟨rfl, fun K' hK => wp_callv (.func 44) #[.tmp 83] _ 44 #[] #[.agg (cS u.z)] #[.agg (cS u.z)] rfl rfl (map1 (eval_tmp ((hin 23 83 rfl).trans (congrArg some (show uu 23 = .agg (cS u.z) from hd 23 (by decide) (by kernel_rfl)))))) (by kernel_rfl) (fun _ _ => by kernel_rfl) (Hr2.out ww) (fun _ hB => (hK _ _ (hJ.later hB) rfl (veL_later hB)))⟩
  ·
   exact .inr ⟨rfl, fun K' hK => wp_load 27 (.tmp 5) rfl bk5 0 3 (cS b) (cS b) 27 (hJ.es.at' _ (List.mem_of_getElem? (i := 7) rfl)) (eval_tmp ((hev 5 (by decide)).trans rfl)) ag27 sz27 (Nat.le_of_ble_eq_true (by kernel_rfl)) (by kernel_rfl) (hK _ _ hJ rfl veL_same)⟩
  ·
   exact .inr ⟨rfl, fun K' hK => wp_load 27 (.tmp 8) rfl bk7 0 3 (cS xy) (cS xy) 27 (hJ.es.at' _ (List.mem_of_getElem? (i := 5) rfl)) (eval_tmp ((hev 8 (by decide)).trans rfl)) ag27 sz27 (Nat.le_of_ble_eq_true (by kernel_rfl)) (by kernel_rfl) (hK _ _ hJ rfl veL_same)⟩
  ·
   exact .inr ⟨rfl, fun K' hK => wp_callv (.func 43) #[.const (.int .i64 0), .tmp 81, .tmp 84, .tmp 85, .tmp 86] _ 43 #[] #[.int .i64 0, .agg (cS a), .agg (cS r2), .agg (cS b), .agg (cS xy)] #[.int .i64 0, .agg (cS a), .agg (cS r2), .agg (cS b), .agg (cS xy)] rfl rfl (map5 rfl (eval_tmp ((hin 21 81 rfl).trans (congrArg some (show uu 21 = .agg (cS a) from hd 21 (by decide) (by kernel_rfl))))) (eval_tmp ((hin 24 84 rfl).trans (congrArg some (show uu 24 = .agg (cS r2) from hd 24 (by decide) (by kernel_rfl))))) (eval_tmp ((hin 25 85 rfl).trans (congrArg some (show uu 25 = .agg (cS b) from hd 25 (by decide) (by kernel_rfl))))) (eval_tmp ((hin 26 86 rfl).trans (congrArg some (show uu 26 = .agg (cS xy) from hd 26 (by decide) (by kernel_rfl)))))) (by kernel_rfl) (fun _ _ => by kernel_rfl) (Hk3.out ww) (fun _ hB => (hK _ _ (hJ.later hB) rfl (veL_later hB)))⟩
  ·
   exact .inr ⟨rfl, fun K' hK => wp_move (.tmp 7) rfl (eval_tmp ((hev 7 (by decide)).trans rfl)) (hK _ _ hJ rfl veL_same)⟩
  ·
   exact .inr ⟨rfl, fun K' hK => wp_load 27 (.tmp 4) rfl bk4 0 3 (cS a) (cS a) 27 (hJ.es.at' _ (List.mem_of_getElem? (i := 8) rfl)) (eval_tmp ((hev 4 (by decide)).trans rfl)) ag27 sz27 (Nat.le_of_ble_eq_true (by kernel_rfl)) (by kernel_rfl) (hK _ _ hJ rfl veL_same)⟩
  ·
   exact .inr ⟨rfl, fun K' hK => wp_load 27 (.tmp 6) rfl bk6 0 3 (cS o) (cS o) 27 (hJ.es.at' _ (List.mem_of_getElem? (i := 6) rfl)) (eval_tmp ((hev 6 (by decide)).trans rfl)) ag27 sz27 (Nat.le_of_ble_eq_true (by kernel_rfl)) (by kernel_rfl) (hK _ _ hJ rfl veL_same)⟩
  ·
   exact .inr ⟨rfl, fun K' hK => wp_load 27 (.tmp 5) rfl bk5 0 3 (cS b) (cS b) 27 (hJ.es.at' _ (List.mem_of_getElem? (i := 7) rfl)) (eval_tmp ((hev 5 (by decide)).trans rfl)) ag27 sz27 (Nat.le_of_ble_eq_true (by kernel_rfl)) (by kernel_rfl) (hK _ _ hJ rfl veL_same)⟩
  ·
   exact .inr ⟨rfl, fun K' hK => wp_load 27 (.tmp 12) rfl bk11 0 3 (cS yy) (cS yy) 27 (hJ.es.at' _ (List.mem_of_getElem? (i := 1) rfl)) (eval_tmp ((hev 12 (by decide)).trans rfl)) ag27 sz27 (Nat.le_of_ble_eq_true (by kernel_rfl)) (by kernel_rfl) (hK _ _ hJ rfl veL_same)⟩
  ·
   exact .inr ⟨rfl, fun K' hK => wp_callv (.func 43) #[.tmp 88, .tmp 89, .tmp 90, .tmp 91, .tmp 92] _ 43 #[] #[.int .i64 1048576, .agg (cS a), .agg (cS o), .agg (cS b), .agg (cS yy)] #[.int .i64 1048576, .agg (cS a), .agg (cS o), .agg (cS b), .agg (cS yy)] rfl rfl (map5 (eval_tmp ((hin 28 88 rfl).trans (congrArg some (show uu 28 = .int .i64 1048576 from hd 28 (by decide) (by kernel_rfl))))) (eval_tmp ((hin 29 89 rfl).trans (congrArg some (show uu 29 = .agg (cS a) from hd 29 (by decide) (by kernel_rfl))))) (eval_tmp ((hin 30 90 rfl).trans (congrArg some (show uu 30 = .agg (cS o) from hd 30 (by decide) (by kernel_rfl))))) (eval_tmp ((hin 31 91 rfl).trans (congrArg some (show uu 31 = .agg (cS b) from hd 31 (by decide) (by kernel_rfl))))) (eval_tmp ((hin 32 92 rfl).trans (congrArg some (show uu 32 = .agg (cS yy) from hd 32 (by decide) (by kernel_rfl)))))) (by kernel_rfl) (fun _ _ => by kernel_rfl) (Hk4.out ww) (fun _ hB => (hK _ _ (hJ.later hB) rfl (veL_later hB)))⟩
  ·
   exact .inr ⟨rfl, fun K' hK => wp_load 27 (.tmp 4) rfl bk4 0 3 (cS a) (cS a) 27 (hJ.es.at' _ (List.mem_of_getElem? (i := 8) rfl)) (eval_tmp ((hev 4 (by decide)).trans rfl)) ag27 sz27 (Nat.le_of_ble_eq_true (by kernel_rfl)) (by kernel_rfl) (hK _ _ hJ rfl veL_same)⟩
  ·
   exact .inr ⟨rfl, fun K' hK => wp_fda 29 (.tmp 1) 0 rfl (eval_tmp ((hev 1 (by decide)).trans rfl)) (fun _ => by kernel_rfl) (hK _ _ hJ rfl veL_same)⟩
  ·
   exact .inr ⟨rfl, fun K' hK => wp_load 27 (.tmp 95) rfl bk1 0 3 (cV u) (cS u.x) 29 (hJ.es.at' _ (List.mem_of_getElem? (i := 11) rfl)) (eval_tmp ((hin 35 95 rfl).trans (congrArg some (show uu 35 = .pointer (some ⟨bk1, 0, none⟩) from hd 35 (by decide) (by kernel_rfl))))) ag27 sz27 (Nat.le_of_ble_eq_true (by kernel_rfl)) (by kernel_rfl) (hK _ _ hJ rfl veL_same)⟩
  ·
   exact .inr ⟨rfl, fun K' hK => wp_callv (.func 42) #[.tmp 96] _ 42 #[] #[.agg (cS u.x)] #[.agg (cS u.x)] rfl rfl (map1 (eval_tmp ((hin 36 96 rfl).trans (congrArg some (show uu 36 = .agg (cS u.x) from hd 36 (by decide) (by kernel_rfl)))))) (by kernel_rfl) (fun _ _ => by kernel_rfl) (Hm0.out ww) (fun _ hB => (hK _ _ (hJ.later hB) rfl (veL_later hB)))⟩
  ·
   exact .inr ⟨rfl, fun K' hK => wp_load 27 (.tmp 5) rfl bk5 0 3 (cS b) (cS b) 27 (hJ.es.at' _ (List.mem_of_getElem? (i := 7) rfl)) (eval_tmp ((hev 5 (by decide)).trans rfl)) ag27 sz27 (Nat.le_of_ble_eq_true (by kernel_rfl)) (by kernel_rfl) (hK _ _ hJ rfl veL_same)⟩
  ·
   exact .inr ⟨rfl, fun K' hK => wp_load 27 (.tmp 10) rfl bk9 0 3 (cS yz) (cS yz) 27 (hJ.es.at' _ (List.mem_of_getElem? (i := 3) rfl)) (eval_tmp ((hev 10 (by decide)).trans rfl)) ag27 sz27 (Nat.le_of_ble_eq_true (by kernel_rfl)) (by kernel_rfl) (hK _ _ hJ rfl veL_same)⟩
  ·
   exact .inr ⟨rfl, fun K' hK => wp_callv (.func 43) #[.const (.int .i64 0), .tmp 94, .tmp 97, .tmp 98, .tmp 99] _ 43 #[] #[.int .i64 0, .agg (cS a), .agg (cS m0), .agg (cS b), .agg (cS yz)] #[.int .i64 0, .agg (cS a), .agg (cS m0), .agg (cS b), .agg (cS yz)] rfl rfl (map5 rfl (eval_tmp ((hin 34 94 rfl).trans (congrArg some (show uu 34 = .agg (cS a) from hd 34 (by decide) (by kernel_rfl))))) (eval_tmp ((hin 37 97 rfl).trans (congrArg some (show uu 37 = .agg (cS m0) from hd 37 (by decide) (by kernel_rfl))))) (eval_tmp ((hin 38 98 rfl).trans (congrArg some (show uu 38 = .agg (cS b) from hd 38 (by decide) (by kernel_rfl))))) (eval_tmp ((hin 39 99 rfl).trans (congrArg some (show uu 39 = .agg (cS yz) from hd 39 (by decide) (by kernel_rfl)))))) (by kernel_rfl) (fun _ _ => by kernel_rfl) (Hk5.out ww) (fun _ hB => (hK _ _ (hJ.later hB) rfl (veL_later hB)))⟩
  ·
   exact .inr ⟨rfl, fun K' hK => wp_bld 29 #[(0, .tmp 87), (1, .tmp 93), (2, .tmp 100)] rfl (bmap3 (eval_tmp ((hin 27 87 rfl).trans (congrArg some (show uu 27 = .agg (cS k3) from hd 27 (by decide) (by kernel_rfl))))) (eval_tmp ((hin 33 93 rfl).trans (congrArg some (show uu 33 = .agg (cS k4) from hd 33 (by decide) (by kernel_rfl))))) (eval_tmp ((hin 40 100 rfl).trans (congrArg some (show uu 40 = .agg (cS k5) from hd 40 (by decide) (by kernel_rfl)))))) (fun _ => by kernel_rfl) (hK _ _ hJ rfl veL_same)⟩
  ·
   exact .inr ⟨rfl, fun K' hK => wp_load 27 (.tmp 4) rfl bk4 0 3 (cS a) (cS a) 27 (hJ.es.at' _ (List.mem_of_getElem? (i := 8) rfl)) (eval_tmp ((hev 4 (by decide)).trans rfl)) ag27 sz27 (Nat.le_of_ble_eq_true (by kernel_rfl)) (by kernel_rfl) (hK _ _ hJ rfl veL_same)⟩
  ·
   exact .inr ⟨rfl, fun K' hK => wp_fda 29 (.tmp 1) 1 rfl (eval_tmp ((hev 1 (by decide)).trans rfl)) (fun _ => by kernel_rfl) (hK _ _ hJ rfl veL_same)⟩
  ·
   exact .inr ⟨rfl, fun K' hK => wp_load 27 (.tmp 103) rfl bk1 3 3 (cV u) (cS u.y) 29 (hJ.es.at' _ (List.mem_of_getElem? (i := 11) rfl)) (eval_tmp ((hin 43 103 rfl).trans (congrArg some (show uu 43 = .pointer (some ⟨bk1, 3, none⟩) from hd 43 (by decide) (by kernel_rfl))))) ag27 sz27 (Nat.le_of_ble_eq_true (by kernel_rfl)) (by kernel_rfl) (hK _ _ hJ rfl veL_same)⟩
  ·
   exact .inr ⟨rfl, fun K' hK => wp_callv (.func 42) #[.tmp 104] _ 42 #[] #[.agg (cS u.y)] #[.agg (cS u.y)] rfl rfl (map1 (eval_tmp ((hin 44 104 rfl).trans (congrArg some (show uu 44 = .agg (cS u.y) from hd 44 (by decide) (by kernel_rfl)))))) (by kernel_rfl) (fun _ _ => by kernel_rfl) (Hm1.out ww) (fun _ hB => (hK _ _ (hJ.later hB) rfl (veL_later hB)))⟩
  ·
   exact .inr ⟨rfl, fun K' hK => wp_load 27 (.tmp 5) rfl bk5 0 3 (cS b) (cS b) 27 (hJ.es.at' _ (List.mem_of_getElem? (i := 7) rfl)) (eval_tmp ((hev 5 (by decide)).trans rfl)) ag27 sz27 (Nat.le_of_ble_eq_true (by kernel_rfl)) (by kernel_rfl) (hK _ _ hJ rfl veL_same)⟩
  ·
   exact .inr ⟨rfl, fun K' hK => wp_load 27 (.tmp 9) rfl bk8 0 3 (cS xz) (cS xz) 27 (hJ.es.at' _ (List.mem_of_getElem? (i := 4) rfl)) (eval_tmp ((hev 9 (by decide)).trans rfl)) ag27 sz27 (Nat.le_of_ble_eq_true (by kernel_rfl)) (by kernel_rfl) (hK _ _ hJ rfl veL_same)⟩
  ·
   exact .inr ⟨rfl, fun K' hK => wp_callv (.func 43) #[.const (.int .i64 0), .tmp 102, .tmp 105, .tmp 106, .tmp 107] _ 43 #[] #[.int .i64 0, .agg (cS a), .agg (cS m1), .agg (cS b), .agg (cS xz)] #[.int .i64 0, .agg (cS a), .agg (cS m1), .agg (cS b), .agg (cS xz)] rfl rfl (map5 rfl (eval_tmp ((hin 42 102 rfl).trans (congrArg some (show uu 42 = .agg (cS a) from hd 42 (by decide) (by kernel_rfl))))) (eval_tmp ((hin 45 105 rfl).trans (congrArg some (show uu 45 = .agg (cS m1) from hd 45 (by decide) (by kernel_rfl))))) (eval_tmp ((hin 46 106 rfl).trans (congrArg some (show uu 46 = .agg (cS b) from hd 46 (by decide) (by kernel_rfl))))) (eval_tmp ((hin 47 107 rfl).trans (congrArg some (show uu 47 = .agg (cS xz) from hd 47 (by decide) (by kernel_rfl)))))) (by kernel_rfl) (fun _ _ => by kernel_rfl) (Hk6.out ww) (fun _ hB => (hK _ _ (hJ.later hB) rfl (veL_later hB)))⟩
  ·
   exact .inr ⟨rfl, fun K' hK => wp_load 27 (.tmp 4) rfl bk4 0 3 (cS a) (cS a) 27 (hJ.es.at' _ (List.mem_of_getElem? (i := 8) rfl)) (eval_tmp ((hev 4 (by decide)).trans rfl)) ag27 sz27 (Nat.le_of_ble_eq_true (by kernel_rfl)) (by kernel_rfl) (hK _ _ hJ rfl veL_same)⟩
  ·
   exact .inr ⟨rfl, fun K' hK => wp_fda 29 (.tmp 1) 0 rfl (eval_tmp ((hev 1 (by decide)).trans rfl)) (fun _ => by kernel_rfl) (hK _ _ hJ rfl veL_same)⟩
  ·
   exact .inr ⟨rfl, fun K' hK => wp_load 27 (.tmp 110) rfl bk1 0 3 (cV u) (cS u.x) 29 (hJ.es.at' _ (List.mem_of_getElem? (i := 11) rfl)) (eval_tmp ((hin 50 110 rfl).trans (congrArg some (show uu 50 = .pointer (some ⟨bk1, 0, none⟩) from hd 50 (by decide) (by kernel_rfl))))) ag27 sz27 (Nat.le_of_ble_eq_true (by kernel_rfl)) (by kernel_rfl) (hK _ _ hJ rfl veL_same)⟩
  ·
   exact .inr ⟨rfl, fun K' hK => wp_callv (.func 44) #[.tmp 111] _ 44 #[] #[.agg (cS u.x)] #[.agg (cS u.x)] rfl rfl (map1 (eval_tmp ((hin 51 111 rfl).trans (congrArg some (show uu 51 = .agg (cS u.x) from hd 51 (by decide) (by kernel_rfl)))))) (by kernel_rfl) (fun _ _ => by kernel_rfl) (Hr0.out ww) (fun _ hB => (hK _ _ (hJ.later hB) rfl (veL_later hB)))⟩
  ·
   exact .inr ⟨rfl, fun K' hK => wp_load 27 (.tmp 5) rfl bk5 0 3 (cS b) (cS b) 27 (hJ.es.at' _ (List.mem_of_getElem? (i := 7) rfl)) (eval_tmp ((hev 5 (by decide)).trans rfl)) ag27 sz27 (Nat.le_of_ble_eq_true (by kernel_rfl)) (by kernel_rfl) (hK _ _ hJ rfl veL_same)⟩
  ·
   exact .inr ⟨rfl, fun K' hK => wp_load 27 (.tmp 10) rfl bk9 0 3 (cS yz) (cS yz) 27 (hJ.es.at' _ (List.mem_of_getElem? (i := 3) rfl)) (eval_tmp ((hev 10 (by decide)).trans rfl)) ag27 sz27 (Nat.le_of_ble_eq_true (by kernel_rfl)) (by kernel_rfl) (hK _ _ hJ rfl veL_same)⟩
  ·
   exact .inr ⟨rfl, fun K' hK => wp_callv (.func 43) #[.const (.int .i64 0), .tmp 109, .tmp 112, .tmp 113, .tmp 114] _ 43 #[] #[.int .i64 0, .agg (cS a), .agg (cS r0), .agg (cS b), .agg (cS yz)] #[.int .i64 0, .agg (cS a), .agg (cS r0), .agg (cS b), .agg (cS yz)] rfl rfl (map5 rfl (eval_tmp ((hin 49 109 rfl).trans (congrArg some (show uu 49 = .agg (cS a) from hd 49 (by decide) (by kernel_rfl))))) (eval_tmp ((hin 52 112 rfl).trans (congrArg some (show uu 52 = .agg (cS r0) from hd 52 (by decide) (by kernel_rfl))))) (eval_tmp ((hin 53 113 rfl).trans (congrArg some (show uu 53 = .agg (cS b) from hd 53 (by decide) (by kernel_rfl))))) (eval_tmp ((hin 54 114 rfl).trans (congrArg some (show uu 54 = .agg (cS yz) from hd 54 (by decide) (by kernel_rfl)))))) (by kernel_rfl) (fun _ _ => by kernel_rfl) (Hk7.out ww) (fun _ hB => (hK _ _ (hJ.later hB) rfl (veL_later hB)))⟩
  ·
   exact .inr ⟨rfl, fun K' hK => wp_move (.tmp 7) rfl (eval_tmp ((hev 7 (by decide)).trans rfl)) (hK _ _ hJ rfl veL_same)⟩
  ·
   exact .inr ⟨rfl, fun K' hK => wp_load 27 (.tmp 4) rfl bk4 0 3 (cS a) (cS a) 27 (hJ.es.at' _ (List.mem_of_getElem? (i := 8) rfl)) (eval_tmp ((hev 4 (by decide)).trans rfl)) ag27 sz27 (Nat.le_of_ble_eq_true (by kernel_rfl)) (by kernel_rfl) (hK _ _ hJ rfl veL_same)⟩
  ·
   exact .inr ⟨rfl, fun K' hK => wp_load 27 (.tmp 6) rfl bk6 0 3 (cS o) (cS o) 27 (hJ.es.at' _ (List.mem_of_getElem? (i := 6) rfl)) (eval_tmp ((hev 6 (by decide)).trans rfl)) ag27 sz27 (Nat.le_of_ble_eq_true (by kernel_rfl)) (by kernel_rfl) (hK _ _ hJ rfl veL_same)⟩
  ·
   exact .inr ⟨rfl, fun K' hK => wp_load 27 (.tmp 5) rfl bk5 0 3 (cS b) (cS b) 27 (hJ.es.at' _ (List.mem_of_getElem? (i := 7) rfl)) (eval_tmp ((hev 5 (by decide)).trans rfl)) ag27 sz27 (Nat.le_of_ble_eq_true (by kernel_rfl)) (by kernel_rfl) (hK _ _ hJ rfl veL_same)⟩
  ·
   exact .inr ⟨rfl, fun K' hK => wp_load 27 (.tmp 13) rfl bk12 0 3 (cS zz) (cS zz) 27 (hJ.es.at' _ (List.mem_of_getElem? (i := 0) rfl)) (eval_tmp ((hev 13 (by decide)).trans rfl)) ag27 sz27 (Nat.le_of_ble_eq_true (by kernel_rfl)) (by kernel_rfl) (hK _ _ hJ rfl veL_same)⟩
  ·
   exact .inr ⟨rfl, fun K' hK => wp_callv (.func 43) #[.tmp 116, .tmp 117, .tmp 118, .tmp 119, .tmp 120] _ 43 #[] #[.int .i64 1048576, .agg (cS a), .agg (cS o), .agg (cS b), .agg (cS zz)] #[.int .i64 1048576, .agg (cS a), .agg (cS o), .agg (cS b), .agg (cS zz)] rfl rfl (map5 (eval_tmp ((hin 56 116 rfl).trans (congrArg some (show uu 56 = .int .i64 1048576 from hd 56 (by decide) (by kernel_rfl))))) (eval_tmp ((hin 57 117 rfl).trans (congrArg some (show uu 57 = .agg (cS a) from hd 57 (by decide) (by kernel_rfl))))) (eval_tmp ((hin 58 118 rfl).trans (congrArg some (show uu 58 = .agg (cS o) from hd 58 (by decide) (by kernel_rfl))))) (eval_tmp ((hin 59 119 rfl).trans (congrArg some (show uu 59 = .agg (cS b) from hd 59 (by decide) (by kernel_rfl))))) (eval_tmp ((hin 60 120 rfl).trans (congrArg some (show uu 60 = .agg (cS zz) from hd 60 (by decide) (by kernel_rfl)))))) (by kernel_rfl) (fun _ _ => by kernel_rfl) (Hk8.out ww) (fun _ hB => (hK _ _ (hJ.later hB) rfl (veL_later hB)))⟩
  ·
   exact .inr ⟨rfl, fun K' hK => wp_bld 29 #[(0, .tmp 108), (1, .tmp 115), (2, .tmp 121)] rfl (bmap3 (eval_tmp ((hin 48 108 rfl).trans (congrArg some (show uu 48 = .agg (cS k6) from hd 48 (by decide) (by kernel_rfl))))) (eval_tmp ((hin 55 115 rfl).trans (congrArg some (show uu 55 = .agg (cS k7) from hd 55 (by decide) (by kernel_rfl))))) (eval_tmp ((hin 61 121 rfl).trans (congrArg some (show uu 61 = .agg (cS k8) from hd 61 (by decide) (by kernel_rfl)))))) (fun _ => by kernel_rfl) (hK _ _ hJ rfl veL_same)⟩
  ·
   exact .inr ⟨rfl, fun K' hK => wp_bld 31 #[(0, .tmp 80), (1, .tmp 101), (2, .tmp 122)] rfl (bmap3 (eval_tmp ((hin 20 80 rfl).trans (congrArg some (show uu 20 = .agg (cV ⟨k0, k1, k2⟩) from hd 20 (by decide) (by kernel_rfl))))) (eval_tmp ((hin 41 101 rfl).trans (congrArg some (show uu 41 = .agg (cV ⟨k3, k4, k5⟩) from hd 41 (by decide) (by kernel_rfl))))) (eval_tmp ((hin 62 122 rfl).trans (congrArg some (show uu 62 = .agg (cV ⟨k6, k7, k8⟩) from hd 62 (by decide) (by kernel_rfl)))))) (fun _ => by kernel_rfl) (hK _ _ hJ rfl veL_same)⟩
 clear hM
 intro uu W30 hJm hd
 have e_0 : uu 0 = .int .i64 1048576 := hd 0 (by decide)
 have e_1 : uu 1 = .agg (cS a) := hd 1 (by decide)
 have e_2 : uu 2 = .agg (cS o) := hd 2 (by decide)
 have e_3 : uu 3 = .agg (cS b) := hd 3 (by decide)
 have e_4 : uu 4 = .agg (cS xx) := hd 4 (by decide)
 have e_5 : uu 5 = .agg (cS k0) := hd 5 (by decide)
 have e_6 : uu 6 = .agg (cS a) := hd 6 (by decide)
 have e_7 : uu 7 = .pointer (some ⟨bk1, 6, none⟩) := hd 7 (by decide)
 have e_8 : uu 8 = .agg (cS u.z) := hd 8 (by decide)
 have e_9 : uu 9 = .agg (cS m2) := hd 9 (by decide)
 have e_10 : uu 10 = .agg (cS b) := hd 10 (by decide)
 have e_11 : uu 11 = .agg (cS xy) := hd 11 (by decide)
 have e_12 : uu 12 = .agg (cS k1) := hd 12 (by decide)
 have e_13 : uu 13 = .agg (cS a) := hd 13 (by decide)
 have e_14 : uu 14 = .pointer (some ⟨bk1, 3, none⟩) := hd 14 (by decide)
 have e_15 : uu 15 = .agg (cS u.y) := hd 15 (by decide)
 have e_16 : uu 16 = .agg (cS r1) := hd 16 (by decide)
 have e_17 : uu 17 = .agg (cS b) := hd 17 (by decide)
 have e_18 : uu 18 = .agg (cS xz) := hd 18 (by decide)
 have e_19 : uu 19 = .agg (cS k2) := hd 19 (by decide)
 have e_20 : uu 20 = .agg (cV ⟨k0, k1, k2⟩) := hd 20 (by decide)
 have e_21 : uu 21 = .agg (cS a) := hd 21 (by decide)
 have e_22 : uu 22 = .pointer (some ⟨bk1, 6, none⟩) := hd 22 (by decide)
 have e_23 : uu 23 = .agg (cS u.z) := hd 23 (by decide)
 have e_24 : uu 24 = .agg (cS r2) := hd 24 (by decide)
 have e_25 : uu 25 = .agg (cS b) := hd 25 (by decide)
 have e_26 : uu 26 = .agg (cS xy) := hd 26 (by decide)
 have e_27 : uu 27 = .agg (cS k3) := hd 27 (by decide)
 have e_28 : uu 28 = .int .i64 1048576 := hd 28 (by decide)
 have e_29 : uu 29 = .agg (cS a) := hd 29 (by decide)
 have e_30 : uu 30 = .agg (cS o) := hd 30 (by decide)
 have e_31 : uu 31 = .agg (cS b) := hd 31 (by decide)
 have e_32 : uu 32 = .agg (cS yy) := hd 32 (by decide)
 have e_33 : uu 33 = .agg (cS k4) := hd 33 (by decide)
 have e_34 : uu 34 = .agg (cS a) := hd 34 (by decide)
 have e_35 : uu 35 = .pointer (some ⟨bk1, 0, none⟩) := hd 35 (by decide)
 have e_36 : uu 36 = .agg (cS u.x) := hd 36 (by decide)
 have e_37 : uu 37 = .agg (cS m0) := hd 37 (by decide)
 have e_38 : uu 38 = .agg (cS b) := hd 38 (by decide)
 have e_39 : uu 39 = .agg (cS yz) := hd 39 (by decide)
 have e_40 : uu 40 = .agg (cS k5) := hd 40 (by decide)
 have e_41 : uu 41 = .agg (cV ⟨k3, k4, k5⟩) := hd 41 (by decide)
 have e_42 : uu 42 = .agg (cS a) := hd 42 (by decide)
 have e_43 : uu 43 = .pointer (some ⟨bk1, 3, none⟩) := hd 43 (by decide)
 have e_44 : uu 44 = .agg (cS u.y) := hd 44 (by decide)
 have e_45 : uu 45 = .agg (cS m1) := hd 45 (by decide)
 have e_46 : uu 46 = .agg (cS b) := hd 46 (by decide)
 have e_47 : uu 47 = .agg (cS xz) := hd 47 (by decide)
 have e_48 : uu 48 = .agg (cS k6) := hd 48 (by decide)
 have e_49 : uu 49 = .agg (cS a) := hd 49 (by decide)
 have e_50 : uu 50 = .pointer (some ⟨bk1, 0, none⟩) := hd 50 (by decide)
 have e_51 : uu 51 = .agg (cS u.x) := hd 51 (by decide)
 have e_52 : uu 52 = .agg (cS r0) := hd 52 (by decide)
 have e_53 : uu 53 = .agg (cS b) := hd 53 (by decide)
 have e_54 : uu 54 = .agg (cS yz) := hd 54 (by decide)
 have e_55 : uu 55 = .agg (cS k7) := hd 55 (by decide)
 have e_56 : uu 56 = .int .i64 1048576 := hd 56 (by decide)
 have e_57 : uu 57 = .agg (cS a) := hd 57 (by decide)
 have e_58 : uu 58 = .agg (cS o) := hd 58 (by decide)
 have e_59 : uu 59 = .agg (cS b) := hd 59 (by decide)
 have e_60 : uu 60 = .agg (cS zz) := hd 60 (by decide)
 have e_61 : uu 61 = .agg (cS k8) := hd 61 (by decide)
 have e_62 : uu 62 = .agg (cV ⟨k6, k7, k8⟩) := hd 62 (by decide)
 have e_63 : uu 63 = .agg (cT ⟨⟨k0, k1, k2⟩, ⟨k3, k4, k5⟩, ⟨k6, k7, k8⟩⟩) := hd 63 (by decide)
 clear hd
 simp only [layS, Act.put, List.setIfInBounds_toArray, List.set_cons_succ, List.set_cons_zero, Nat.zero_add, Nat.reduceAdd, List.drop_succ_cons, List.drop_zero, List.drop_nil, e_0, e_1, e_2, e_3, e_4, e_5, e_6, e_7, e_8, e_9, e_10, e_11, e_12, e_13, e_14, e_15, e_16, e_17, e_18, e_19, e_20, e_21, e_22, e_23, e_24, e_25, e_26, e_27, e_28, e_29, e_30, e_31, e_32, e_33, e_34, e_35, e_36, e_37, e_38, e_39, e_40, e_41, e_42, e_43, e_44, e_45, e_46, e_47, e_48, e_49, e_50, e_51, e_52, e_53, e_54, e_55, e_56, e_57, e_58, e_59, e_60, e_61, e_62, e_63]
 clear e_0 e_1 e_2 e_3 e_4 e_5 e_6 e_7 e_8 e_9 e_10 e_11 e_12 e_13 e_14 e_15 e_16 e_17 e_18 e_19 e_20 e_21 e_22 e_23 e_24 e_25 e_26 e_27 e_28 e_29 e_30 e_31 e_32 e_33 e_34 e_35 e_36 e_37 e_38 e_39 e_40 e_41 e_42 e_43 e_44 e_45 e_46 e_47 e_48 e_49 e_50 e_51 e_52 e_53 e_54 e_55 e_56 e_57 e_58 e_59 e_60 e_61 e_62 e_63
 have hJ30 := hJm.es
 clear hJm
 refine stop_store 31 (.tmp 2) (.tmp 123) 10 bk2 0 (cT zT) 31 27 (cT ⟨⟨k0, k1, k2⟩, ⟨k3, k4, k5⟩, ⟨k6, k7, k8⟩⟩).toList (cT ⟨⟨k0, k1, k2⟩, ⟨k3, k4, k5⟩, ⟨k6, k7, k8⟩⟩) [(bk12, (cS zz), 27), (bk11, (cS yy), 27), (bk10, (cS xx), 27), (bk9, (cS yz), 27), (bk8, (cS xz), 27), (bk7, (cS xy), 27), (bk6, (cS o), 27), (bk5, (cS b), 27), (bk4, (cS a), 27), (bk3, (cS n), 27), (bk2, (cT ⟨⟨k0, k1, k2⟩, ⟨k3, k4, k5⟩, ⟨k6, k7, k8⟩⟩), 31), (bk1, (cV u), 29)] rfl rfl rfl rfl sz31 hJ30 rfl (by kernel_rfl) (Nat.le_of_ble_eq_true (by kernel_rfl)) (by kernel_rfl) (by kernel_rfl) (by kernel_rfl) (fun W31 hJ31 => ?_)
 clear hJ30
 unfold Stop
 try simp only [Act.put, List.setIfInBounds_toArray, List.set_cons_succ, List.set_cons_zero]
 go_wp2
 exact bodyPost_ret (v := .agg (cT ⟨⟨k0, k1, k2⟩, ⟨k3, k4, k5⟩, ⟨k6, k7, k8⟩⟩)) (results_cell 10 Tryz.results8 hJ31 rfl ag31 sz31 (Nat.le_of_ble_eq_true (by kernel_rfl)) rfl (by kernel_rfl)) rfl ⟨rfl, hJ31.below⟩
theorem mul_mk (a x : Sp) : mulS a (mkS x) = mulS a x := by
 cases hx : okB x
 ·
  rw [mkS_no hx, mulS_comm a, mulS_comm a, (line_no (x := lineS) rfl).1, (line_no hx).1]
 ·
  rw [mkS_ok hx]
theorem oExp_any (u : Vc) (w : World) : Calls Tryz.prog 8 #[.agg (cV u)] w (PVal (.agg (cT (expT u))) w) := by
 have h := oExp_w u (normV u) (encS 1 (normV u)) (encS 2 (normV u)) (ofS 0 0) (mulS u.x u.y) (mulS u.x u.z) (mulS u.y u.z) (sqrS u.x) (sqrS u.y) (sqrS u.z) (addS (sqrS u.y) (sqrS u.z)) (addS (sqrS u.x) (sqrS u.z)) (addS (sqrS u.x) (sqrS u.y)) (negS (addS (sqrS u.y) (sqrS u.z))) (negS (addS (sqrS u.x) (sqrS u.z))) (negS (addS (sqrS u.x) (sqrS u.y))) (negS u.x) (negS u.y) (negS u.z) (mkS u.x) (mkS u.y) (mkS u.z) (plcS (ofS 1048576 1048576) (encS 1 (normV u)) (ofS 0 0) (encS 2 (normV u)) (negS (addS (sqrS u.y) (sqrS u.z)))) (plcS (ofS 0 0) (encS 1 (normV u)) (negS u.z) (encS 2 (normV u)) (mulS u.x u.y)) (plcS (ofS 0 0) (encS 1 (normV u)) (mkS u.y) (encS 2 (normV u)) (mulS u.x u.z)) (plcS (ofS 0 0) (encS 1 (normV u)) (mkS u.z) (encS 2 (normV u)) (mulS u.x u.y)) (plcS (ofS 1048576 1048576) (encS 1 (normV u)) (ofS 0 0) (encS 2 (normV u)) (negS (addS (sqrS u.x) (sqrS u.z)))) (plcS (ofS 0 0) (encS 1 (normV u)) (negS u.x) (encS 2 (normV u)) (mulS u.y u.z)) (plcS (ofS 0 0) (encS 1 (normV u)) (negS u.y) (encS 2 (normV u)) (mulS u.x u.z)) (plcS (ofS 0 0) (encS 1 (normV u)) (mkS u.x) (encS 2 (normV u)) (mulS u.y u.z)) (plcS (ofS 1048576 1048576) (encS 1 (normV u)) (ofS 0 0) (encS 2 (normV u)) (negS (addS (sqrS u.x) (sqrS u.y))))
  (dNorm_any u) (rdA_any _) (rdB_any _) (rdOf_any 0 0) (rdMul_any _ _) (rdMul_any _ _) (rdMul_any _ _) (rdSqr_any _) (rdSqr_any _) (rdSqr_any _) (rdAdd_any _ _) (rdAdd_any _ _) (rdAdd_any _ _) (rdNeg_any _) (rdNeg_any _) (rdNeg_any _) (rdNeg_any _) (rdNeg_any _) (rdNeg_any _) (rRight_any _) (rRight_any _) (rRight_any _)
  (oPlc_any 1048576 _ _ _ _) (oPlc_any 0 _ _ _ _) (oPlc_any 0 _ _ _ _) (oPlc_any 0 _ _ _ _) (oPlc_any 1048576 _ _ _ _) (oPlc_any 0 _ _ _ _) (oPlc_any 0 _ _ _ _) (oPlc_any 0 _ _ _ _) (oPlc_any 1048576 _ _ _ _) w
 have e : (⟨⟨(plcS (ofS 1048576 1048576) (encS 1 (normV u)) (ofS 0 0) (encS 2 (normV u)) (negS (addS (sqrS u.y) (sqrS u.z)))), (plcS (ofS 0 0) (encS 1 (normV u)) (negS u.z) (encS 2 (normV u)) (mulS u.x u.y)), (plcS (ofS 0 0) (encS 1 (normV u)) (mkS u.y) (encS 2 (normV u)) (mulS u.x u.z))⟩, ⟨(plcS (ofS 0 0) (encS 1 (normV u)) (mkS u.z) (encS 2 (normV u)) (mulS u.x u.y)), (plcS (ofS 1048576 1048576) (encS 1 (normV u)) (ofS 0 0) (encS 2 (normV u)) (negS (addS (sqrS u.x) (sqrS u.z)))), (plcS (ofS 0 0) (encS 1 (normV u)) (negS u.x) (encS 2 (normV u)) (mulS u.y u.z))⟩, ⟨(plcS (ofS 0 0) (encS 1 (normV u)) (negS u.y) (encS 2 (normV u)) (mulS u.x u.z)), (plcS (ofS 0 0) (encS 1 (normV u)) (mkS u.x) (encS 2 (normV u)) (mulS u.y u.z)), (plcS (ofS 1048576 1048576) (encS 1 (normV u)) (ofS 0 0) (encS 2 (normV u)) (negS (addS (sqrS u.x) (sqrS u.y))))⟩⟩ : Tu) = expT u := by
  unfold plcS
  rw [mul_mk, mul_mk, mul_mk]
  rfl
 rw [← e]
 exact h
end Go.Proofs.YtdochhhepmlapaaGreat
