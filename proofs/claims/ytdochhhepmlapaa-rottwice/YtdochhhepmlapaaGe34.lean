/- Parts of the proof. -/
import Derived.Test.YtdochhhepmlapaaGe33
import Derived.Test.YtdochhhepmlapaaGe29
/- The walk of the law RotTwice. No statement of the seat is proved here. -/
namespace Go.Proofs.Ytdochhhepmlapaa
open Go Go.RowKit
set_option maxRecDepth 100000 in
set_option maxHeartbeats 12800000 in
theorem tw_in (x y z m n a b c : Int) (hSx : ∀ W : World, Calls Try.prog 43 #[.int .i64 x] W (PVal (.bool true) W)) (hSy : ∀ W : World, Calls Try.prog 43 #[.int .i64 y] W (PVal (.bool true) W)) (hSz : ∀ W : World, Calls Try.prog 43 #[.int .i64 z] W (PVal (.bool true) W)) (w : World) (d0 : decide (m < -100) = false) (d1 : decide (100 < m) = false) (d2 : decide (n < -100) = false) (d3 : decide (100 < n) = false)  (hQx : x.tdiv 200 = a ∧ wrap64 a = a) (hQy : y.tdiv 200 = b ∧ wrap64 b = b) (hQz : z.tdiv 200 = c ∧ wrap64 c = c) (hKma : wrap64 (m * a) = m * a ∧ wrap64 a = a) (hKmb : wrap64 (m * b) = m * b ∧ wrap64 b = b) (hKmc : wrap64 (m * c) = m * c ∧ wrap64 c = c) (hKna : wrap64 (n * a) = n * a ∧ wrap64 a = a) (hKnb : wrap64 (n * b) = n * b ∧ wrap64 b = b) (hKnc : wrap64 (n * c) = n * c ∧ wrap64 c = c) (hKmn : wrap64 (m + n) = m + n) (hKsa : wrap64 ((m + n) * a) = (m + n) * a ∧ wrap64 a = a) (hKsb : wrap64 ((m + n) * b) = (m + n) * b ∧ wrap64 b = b) (hKsc : wrap64 ((m + n) * c) = (m + n) * c ∧ wrap64 c = c) (hHM : meetT (mulT (expT (ofV (m * a) (m * b) (m * c))) (expT (ofV (n * a) (n * b) (n * c)))) (expT (ofV ((m + n) * a) ((m + n) * b) ((m + n) * c)))) : Calls Try.prog 7 #[.int .i64 x, .int .i64 y, .int .i64 z, .int .i64 m, .int .i64 n] w (PVal (.bool true) w) := by
 have Sx := Lib.hid hSx
 have Sy := Lib.hid hSy
 have Sz := Lib.hid hSz
 clear hSx hSy hSz
 have Qx := Lib.hid hQx
 have Qy := Lib.hid hQy
 have Qz := Lib.hid hQz
 have Kma := Lib.hid hKma
 have Kmb := Lib.hid hKmb
 have Kmc := Lib.hid hKmc
 have Kna := Lib.hid hKna
 have Knb := Lib.hid hKnb
 have Knc := Lib.hid hKnc
 have Kmn := Lib.hid hKmn
 have Ksa := Lib.hid hKsa
 have Ksb := Lib.hid hKsb
 have Ksc := Lib.hid hKsc
 have HM := Lib.hid hHM
 clear hQx hQy hQz hKma hKmb hKmc hKna hKnb hKnc hKmn hKsa hKsb hKsc hHM
 have hJ0 := es_nil w
 go_enter Try.func7, Try.ntmps7
 go_wp2_with fail
 refine (rawake_any w).mono ?_
 rintro zz W1 ⟨rfl, hB⟩
 have hJ1 := hJ0.later hB
 clear hB
 clear hJ0
 go_wp2_with fail
 refine (Sx.out _).mono ?_
 rintro zz W2 ⟨rfl, hB⟩
 have hJ2 := hJ1.later hB
 clear hB
 clear hJ1
 go_wp2_with fail
 refine (Sy.out _).mono ?_
 rintro zz W3 ⟨rfl, hB⟩
 have hJ3 := hJ2.later hB
 clear hB
 clear hJ2
 go_wp2_with fail
 refine (Sz.out _).mono ?_
 rintro zz W4 ⟨rfl, hB⟩
 have hJ4 := hJ3.later hB
 clear hB
 clear hJ3
 have qQx := Qx.out
 have qQy := Qy.out
 have qQz := Qz.out
 have qKma := Kma.out
 have qKmb := Kmb.out
 have qKmc := Kmc.out
 go_wp2_with fail
 refine (vOf_any (m * a) (m * b) (m * c) W4).mono ?_
 rintro zz W5 ⟨rfl, hB⟩
 have hJ5 := hJ4.later hB
 clear hB
 clear qQx qQy qQz qKma qKmb qKmc
 clear hJ4
 go_wp2_with fail
 refine (tExp_any (ofV (m * a) (m * b) (m * c)) W5).mono ?_
 rintro zz W6 ⟨rfl, hB⟩
 have hJ6 := hJ5.later hB
 clear hB
 clear hJ5
 go_wp2_with (refine stop_alloc 50 (cT zT) (.agg (cT zT)) rfl rfl zv50 rfl hJ6 (fun bk1 W7 hJ7 => ?_))
 clear hJ6
 unfold Stop
 try simp only [Act.put, List.setIfInBounds_toArray, List.set_cons_succ, List.set_cons_zero]
 go_wp2_with (refine stop_store 50 (.tmp 12) (.tmp 67) 0 bk1 0 (cT zT) 50 27 (cT (expT (ofV (m * a) (m * b) (m * c)))).toList (cT (expT (ofV (m * a) (m * b) (m * c)))) [(bk1, (cT (expT (ofV (m * a) (m * b) (m * c)))), 50)] rfl rfl rfl rfl sz50 hJ7 rfl (by kernel_rfl) (Nat.le_of_ble_eq_true (by kernel_rfl)) (by kernel_rfl) (by kernel_rfl) (by kernel_rfl) (fun W8 hJ8 => ?_))
 clear hJ7
 unfold Stop
 try simp only [Act.put, List.setIfInBounds_toArray, List.set_cons_succ, List.set_cons_zero]
 have qKna := Kna.out
 have qKnb := Knb.out
 have qKnc := Knc.out
 go_wp2_with fail
 refine (vOf_any (n * a) (n * b) (n * c) W8).mono ?_
 rintro zz W9 ⟨rfl, hB⟩
 have hJ9 := hJ8.later hB
 clear hB
 clear qKna qKnb qKnc
 clear hJ8
 go_wp2_with fail
 refine (tExp_any (ofV (n * a) (n * b) (n * c)) W9).mono ?_
 rintro zz W10 ⟨rfl, hB⟩
 have hJ10 := hJ9.later hB
 clear hB
 clear hJ9
 go_wp2_with (refine stop_alloc 50 (cT zT) (.agg (cT zT)) rfl rfl zv50 rfl hJ10 (fun bk2 W11 hJ11 => ?_))
 clear hJ10
 unfold Stop
 try simp only [Act.put, List.setIfInBounds_toArray, List.set_cons_succ, List.set_cons_zero]
 go_wp2_with (refine stop_store 50 (.tmp 13) (.tmp 78) 0 bk2 0 (cT zT) 50 27 (cT (expT (ofV (n * a) (n * b) (n * c)))).toList (cT (expT (ofV (n * a) (n * b) (n * c)))) [(bk2, (cT (expT (ofV (n * a) (n * b) (n * c)))), 50), (bk1, (cT (expT (ofV (m * a) (m * b) (m * c)))), 50)] rfl rfl rfl rfl sz50 hJ11 rfl (by kernel_rfl) (Nat.le_of_ble_eq_true (by kernel_rfl)) (by kernel_rfl) (by kernel_rfl) (by kernel_rfl) (fun W12 hJ12 => ?_))
 clear hJ11
 unfold Stop
 try simp only [Act.put, List.setIfInBounds_toArray, List.set_cons_succ, List.set_cons_zero]
 have qKmn := Kmn.out
 have qKsa := Ksa.out
 have qKsb := Ksb.out
 have qKsc := Ksc.out
 go_wp2_with fail
 refine (vOf_any ((m + n) * a) ((m + n) * b) ((m + n) * c) W12).mono ?_
 rintro zz W13 ⟨rfl, hB⟩
 have hJ13 := hJ12.later hB
 clear hB
 clear qKmn qKsa qKsb qKsc
 clear hJ12
 go_wp2_with fail
 refine (tExp_any (ofV ((m + n) * a) ((m + n) * b) ((m + n) * c)) W13).mono ?_
 rintro zz W14 ⟨rfl, hB⟩
 have hJ14 := hJ13.later hB
 clear hB
 clear hJ13
 go_wp2_with (refine stop_alloc 50 (cT zT) (.agg (cT zT)) rfl rfl zv50 rfl hJ14 (fun bk3 W15 hJ15 => ?_))
 clear hJ14
 unfold Stop
 try simp only [Act.put, List.setIfInBounds_toArray, List.set_cons_succ, List.set_cons_zero]
 go_wp2_with (refine stop_store 50 (.tmp 14) (.tmp 95) 0 bk3 0 (cT zT) 50 27 (cT (expT (ofV ((m + n) * a) ((m + n) * b) ((m + n) * c)))).toList (cT (expT (ofV ((m + n) * a) ((m + n) * b) ((m + n) * c)))) [(bk3, (cT (expT (ofV ((m + n) * a) ((m + n) * b) ((m + n) * c)))), 50), (bk2, (cT (expT (ofV (n * a) (n * b) (n * c)))), 50), (bk1, (cT (expT (ofV (m * a) (m * b) (m * c)))), 50)] rfl rfl rfl rfl sz50 hJ15 rfl (by kernel_rfl) (Nat.le_of_ble_eq_true (by kernel_rfl)) (by kernel_rfl) (by kernel_rfl) (by kernel_rfl) (fun W16 hJ16 => ?_))
 clear hJ15
 unfold Stop
 try simp only [Act.put, List.setIfInBounds_toArray, List.set_cons_succ, List.set_cons_zero]
 go_wp2_with (refine stop_op rfl (fun K hK => wp_load 50 (.tmp 12) rfl bk1 0 27 (cT (expT (ofV (m * a) (m * b) (m * c)))) (cT (expT (ofV (m * a) (m * b) (m * c)))) 50 (hJ16.at' _ (List.mem_of_getElem? (i := 2) rfl)) rfl ag50 sz50 (Nat.le_of_ble_eq_true (by kernel_rfl)) (by kernel_rfl) (hK _ _ ?_)))
 unfold Stop
 try simp only [Act.put, List.setIfInBounds_toArray, List.set_cons_succ, List.set_cons_zero]
 go_wp2_with (refine stop_op rfl (fun K hK => wp_load 50 (.tmp 13) rfl bk2 0 27 (cT (expT (ofV (n * a) (n * b) (n * c)))) (cT (expT (ofV (n * a) (n * b) (n * c)))) 50 (hJ16.at' _ (List.mem_of_getElem? (i := 1) rfl)) rfl ag50 sz50 (Nat.le_of_ble_eq_true (by kernel_rfl)) (by kernel_rfl) (hK _ _ ?_)))
 unfold Stop
 try simp only [Act.put, List.setIfInBounds_toArray, List.set_cons_succ, List.set_cons_zero]
 go_wp2_with fail
 refine (tMul_any (expT (ofV (m * a) (m * b) (m * c))) (expT (ofV (n * a) (n * b) (n * c))) W16).mono ?_
 rintro zz W17 ⟨rfl, hB⟩
 have hJ17 := hJ16.later hB
 clear hB
 clear hJ16
 go_wp2_with (refine stop_alloc 50 (cT zT) (.agg (cT zT)) rfl rfl zv50 rfl hJ17 (fun bk4 W18 hJ18 => ?_))
 clear hJ17
 unfold Stop
 try simp only [Act.put, List.setIfInBounds_toArray, List.set_cons_succ, List.set_cons_zero]
 go_wp2_with (refine stop_store 50 (.tmp 15) (.tmp 98) 0 bk4 0 (cT zT) 50 27 (cT (mulT (expT (ofV (m * a) (m * b) (m * c))) (expT (ofV (n * a) (n * b) (n * c))))).toList (cT (mulT (expT (ofV (m * a) (m * b) (m * c))) (expT (ofV (n * a) (n * b) (n * c))))) [(bk4, (cT (mulT (expT (ofV (m * a) (m * b) (m * c))) (expT (ofV (n * a) (n * b) (n * c))))), 50), (bk3, (cT (expT (ofV ((m + n) * a) ((m + n) * b) ((m + n) * c)))), 50), (bk2, (cT (expT (ofV (n * a) (n * b) (n * c)))), 50), (bk1, (cT (expT (ofV (m * a) (m * b) (m * c)))), 50)] rfl rfl rfl rfl sz50 hJ18 rfl (by kernel_rfl) (Nat.le_of_ble_eq_true (by kernel_rfl)) (by kernel_rfl) (by kernel_rfl) (by kernel_rfl) (fun W19 hJ19 => ?_))
 clear hJ18
 unfold Stop
 try simp only [Act.put, List.setIfInBounds_toArray, List.set_cons_succ, List.set_cons_zero]
 go_wp2
 refine wp_loop_rounds 4 ?_
 rw [rounds_succ]
 go_wp2
 refine wp_loop_rounds 4 ?_
 rw [rounds_succ]
 go_wp2
 obtain ⟨m17_19, hm⟩ : ∃ m, m = W19.heap.size := ⟨_, rfl⟩
 have hM : ∀ uu, Jz w m17_19 [(bk4, (cT (mulT (expT (ofV (m * a) (m * b) (m * c))) (expT (ofV (n * a) (n * b) (n * c))))), 50), (bk3, (cT (expT (ofV ((m + n) * a) ((m + n) * b) ((m + n) * c)))), 50), (bk2, (cT (expT (ofV (n * a) (n * b) (n * c)))), 50), (bk1, (cT (expT (ofV (m * a) (m * b) (m * c)))), 50)] [(14, 3, 23)] [(15, 14, (cS (meetS (mulT (expT (ofV (m * a) (m * b) (m * c))) (expT (ofV (n * a) (n * b) (n * c)))).a.x (expT (ofV ((m + n) * a) ((m + n) * b) ((m + n) * c))).a.x)), 23)] (fun _ => false) uu W19.drew := fun uu => by rw [hm]; exact Jz.start hJ19 uu
 clear hm hJ19
 refine wp_region_y 17 [some 108, some 109, some 110, some 111, some 112, some 113, some 114, some 115, some 116, some 117, some 118, some 107, some 119, some 120, some 18, none, some 19] (veL m17_19 [.eq (.int .i64 0), .eq (.int .i64 0), .eq (.pointer (some ⟨bk4, 0, none⟩)), .eq (.pointer (some ⟨bk4, 0, none⟩)), .eq (.agg (cS (mulT (expT (ofV (m * a) (m * b) (m * c))) (expT (ofV (n * a) (n * b) (n * c)))).a.x)), .eq (.int .i64 0), .eq (.int .i64 0), .eq (.pointer (some ⟨bk3, 0, none⟩)), .eq (.pointer (some ⟨bk3, 0, none⟩)), .eq (.agg (cS (expT (ofV ((m + n) * a) ((m + n) * b) ((m + n) * c))).a.x)), .eq (.tuple #[.agg (cS (meetS (mulT (expT (ofV (m * a) (m * b) (m * c))) (expT (ofV (n * a) (n * b) (n * c)))).a.x (expT (ofV ((m + n) * a) ((m + n) * b) ((m + n) * c))).a.x)), .bool true]), .eq (.tuple #[.agg (cS (meetS (mulT (expT (ofV (m * a) (m * b) (m * c))) (expT (ofV (n * a) (n * b) (n * c)))).a.x (expT (ofV ((m + n) * a) ((m + n) * b) ((m + n) * c))).a.x)), .bool true]), .eq (.agg (cS (meetS (mulT (expT (ofV (m * a) (m * b) (m * c))) (expT (ofV (n * a) (n * b) (n * c)))).a.x (expT (ofV ((m + n) * a) ((m + n) * b) ((m + n) * c))).a.x))), .eq (.bool true), .any, .any, .eq (.bool true)]) (Jz w m17_19 [(bk4, (cT (mulT (expT (ofV (m * a) (m * b) (m * c))) (expT (ofV (n * a) (n * b) (n * c))))), 50), (bk3, (cT (expT (ofV ((m + n) * a) ((m + n) * b) ((m + n) * c)))), 50), (bk2, (cT (expT (ofV (n * a) (n * b) (n * c)))), 50), (bk1, (cT (expT (ofV (m * a) (m * b) (m * c)))), 50)] [(14, 3, 23)] [(15, 14, (cS (meetS (mulT (expT (ofV (m * a) (m * b) (m * c))) (expT (ofV (n * a) (n * b) (n * c)))).a.x (expT (ofV ((m + n) * a) ((m + n) * b) ((m + n) * c))).a.x)), 23)]) (by kernel_rfl) (by kernel_rfl) (by rfl) (by decide) (by rfl) hM ?_ ?_
 ·
  intro i hl hi LL uu ww aa hLi hJ hd hev hin
  clear hM
  obtain rfl | rfl | rfl | rfl | rfl | rfl | rfl | rfl | rfl | rfl | rfl | rfl | rfl | rfl | rfl | rfl | rfl : i = 0 ∨ i = 1 ∨ i = 2 ∨ i = 3 ∨ i = 4 ∨ i = 5 ∨ i = 6 ∨ i = 7 ∨ i = 8 ∨ i = 9 ∨ i = 10 ∨ i = 11 ∨ i = 12 ∨ i = 13 ∨ i = 14 ∨ i = 15 ∨ i = 16 := by omega
  ·
   exact .inr ⟨rfl, fun K' hK => wp_move (.tmp 16) rfl (eval_tmp ((hev 16 (by decide)).trans rfl)) (hK _ _ (hJ.grow hLi (by simp) (by simp) (Below.refl _ _)) rfl veL_same)⟩
  ·
   exact .inr ⟨rfl, fun K' hK => wp_move (.tmp 17) rfl (eval_tmp ((hev 17 (by decide)).trans rfl)) (hK _ _ (hJ.grow hLi (by simp) (by simp) (Below.refl _ _)) rfl veL_same)⟩
  ·
   exact .inr ⟨rfl, fun K' hK => wp_ixa 50 (.tmp 15) (.tmp 108) rfl (eval_tmp ((hev 15 (by decide)).trans rfl)) (eval_tmp ((hin 0 108 rfl).trans (congrArg some (show uu 0 = .int .i64 0 from (hd 0 (by decide) (by kernel_rfl)).2)))) (fun _ => by kernel_rfl) (hK _ _ (hJ.grow hLi (by simp) (by simp) (Below.refl _ _)) rfl veL_same)⟩
  ·
   exact .inr ⟨rfl, fun K' hK => wp_ixa 25 (.tmp 110) (.tmp 109) rfl (eval_tmp ((hin 2 110 rfl).trans (congrArg some (show uu 2 = .pointer (some ⟨bk4, 0, none⟩) from (hd 2 (by decide) (by kernel_rfl)).2)))) (eval_tmp ((hin 1 109 rfl).trans (congrArg some (show uu 1 = .int .i64 0 from (hd 1 (by decide) (by kernel_rfl)).2)))) (fun _ => by kernel_rfl) (hK _ _ (hJ.grow hLi (by simp) (by simp) (Below.refl _ _)) rfl veL_same)⟩
  ·
   exact .inr ⟨rfl, fun K' hK => wp_load 23 (.tmp 111) rfl bk4 0 3 (cT (mulT (expT (ofV (m * a) (m * b) (m * c))) (expT (ofV (n * a) (n * b) (n * c))))) (cS (mulT (expT (ofV (m * a) (m * b) (m * c))) (expT (ofV (n * a) (n * b) (n * c)))).a.x) 50 (hJ.em.es.at' _ (List.mem_of_getElem? (i := 0) rfl)) (eval_tmp ((hin 3 111 rfl).trans (congrArg some (show uu 3 = .pointer (some ⟨bk4, 0, none⟩) from (hd 3 (by decide) (by kernel_rfl)).2)))) ag23 sz23 (Nat.le_of_ble_eq_true (by kernel_rfl)) (by kernel_rfl) (hK _ _ (hJ.grow hLi (by simp) (by simp) (Below.refl _ _)) rfl veL_same)⟩
  ·
   exact .inr ⟨rfl, fun K' hK => wp_move (.tmp 16) rfl (eval_tmp ((hev 16 (by decide)).trans rfl)) (hK _ _ (hJ.grow hLi (by simp) (by simp) (Below.refl _ _)) rfl veL_same)⟩
  ·
   exact .inr ⟨rfl, fun K' hK => wp_move (.tmp 17) rfl (eval_tmp ((hev 17 (by decide)).trans rfl)) (hK _ _ (hJ.grow hLi (by simp) (by simp) (Below.refl _ _)) rfl veL_same)⟩
  ·
   exact .inr ⟨rfl, fun K' hK => wp_ixa 50 (.tmp 14) (.tmp 113) rfl (eval_tmp ((hev 14 (by decide)).trans rfl)) (eval_tmp ((hin 5 113 rfl).trans (congrArg some (show uu 5 = .int .i64 0 from (hd 5 (by decide) (by kernel_rfl)).2)))) (fun _ => by kernel_rfl) (hK _ _ (hJ.grow hLi (by simp) (by simp) (Below.refl _ _)) rfl veL_same)⟩
  ·
   exact .inr ⟨rfl, fun K' hK => wp_ixa 25 (.tmp 115) (.tmp 114) rfl (eval_tmp ((hin 7 115 rfl).trans (congrArg some (show uu 7 = .pointer (some ⟨bk3, 0, none⟩) from (hd 7 (by decide) (by kernel_rfl)).2)))) (eval_tmp ((hin 6 114 rfl).trans (congrArg some (show uu 6 = .int .i64 0 from (hd 6 (by decide) (by kernel_rfl)).2)))) (fun _ => by kernel_rfl) (hK _ _ (hJ.grow hLi (by simp) (by simp) (Below.refl _ _)) rfl veL_same)⟩
  ·
   exact .inr ⟨rfl, fun K' hK => wp_load 23 (.tmp 116) rfl bk3 0 3 (cT (expT (ofV ((m + n) * a) ((m + n) * b) ((m + n) * c)))) (cS (expT (ofV ((m + n) * a) ((m + n) * b) ((m + n) * c))).a.x) 50 (hJ.em.es.at' _ (List.mem_of_getElem? (i := 1) rfl)) (eval_tmp ((hin 8 116 rfl).trans (congrArg some (show uu 8 = .pointer (some ⟨bk3, 0, none⟩) from (hd 8 (by decide) (by kernel_rfl)).2)))) ag23 sz23 (Nat.le_of_ble_eq_true (by kernel_rfl)) (by kernel_rfl) (hK _ _ (hJ.grow hLi (by simp) (by simp) (Below.refl _ _)) rfl veL_same)⟩
  ·
   exact .inr ⟨rfl, fun K' hK => wp_callv (.func 41) #[.tmp 112, .tmp 117] _ 41 #[] #[.agg (cS (mulT (expT (ofV (m * a) (m * b) (m * c))) (expT (ofV (n * a) (n * b) (n * c)))).a.x), .agg (cS (expT (ofV ((m + n) * a) ((m + n) * b) ((m + n) * c))).a.x)] #[.agg (cS (mulT (expT (ofV (m * a) (m * b) (m * c))) (expT (ofV (n * a) (n * b) (n * c)))).a.x), .agg (cS (expT (ofV ((m + n) * a) ((m + n) * b) ((m + n) * c))).a.x)] rfl rfl (map2 (eval_tmp ((hin 4 112 rfl).trans (congrArg some (show uu 4 = .agg (cS (mulT (expT (ofV (m * a) (m * b) (m * c))) (expT (ofV (n * a) (n * b) (n * c)))).a.x) from (hd 4 (by decide) (by kernel_rfl)).2)))) (eval_tmp ((hin 9 117 rfl).trans (congrArg some (show uu 9 = .agg (cS (expT (ofV ((m + n) * a) ((m + n) * b) ((m + n) * c))).a.x) from (hd 9 (by decide) (by kernel_rfl)).2))))) (by kernel_rfl) (fun _ _ => by kernel_rfl) (meet_yes HM.out.1.1 ww) (fun _ hB => (hK _ _ (hJ.grow hLi (by simp) (by simp) hB) rfl (veL_flat rfl)))⟩
  ·
   exact .inr ⟨rfl, fun K' hK => wp_move (.tmp 118) rfl (eval_tmp ((hin 10 118 rfl).trans (congrArg some (show uu 10 = .tuple #[.agg (cS (meetS (mulT (expT (ofV (m * a) (m * b) (m * c))) (expT (ofV (n * a) (n * b) (n * c)))).a.x (expT (ofV ((m + n) * a) ((m + n) * b) ((m + n) * c))).a.x)), .bool true] from (hd 10 (by decide) (by kernel_rfl)).2)))) (hK _ _ (hJ.grow hLi (by simp) (by simp) (Below.refl _ _)) rfl veL_same)⟩
  ·
   exact .inr ⟨rfl, fun K' hK => wp_ext (.tmp 107) 0 rfl (eval_tmp ((hin 11 107 rfl).trans (congrArg some (show uu 11 = .tuple #[.agg (cS (meetS (mulT (expT (ofV (m * a) (m * b) (m * c))) (expT (ofV (n * a) (n * b) (n * c)))).a.x (expT (ofV ((m + n) * a) ((m + n) * b) ((m + n) * c))).a.x)), .bool true] from (hd 11 (by decide) (by kernel_rfl)).2)))) (fun _ => rfl) (hK _ _ (hJ.grow hLi (by simp) (by simp) (Below.refl _ _)) rfl veL_same)⟩
  ·
   exact .inr ⟨rfl, fun K' hK => wp_ext (.tmp 107) 1 rfl (eval_tmp ((hin 11 107 rfl).trans (congrArg some (show uu 11 = .tuple #[.agg (cS (meetS (mulT (expT (ofV (m * a) (m * b) (m * c))) (expT (ofV (n * a) (n * b) (n * c)))).a.x (expT (ofV ((m + n) * a) ((m + n) * b) ((m + n) * c))).a.x)), .bool true] from (hd 11 (by decide) (by kernel_rfl)).2)))) (fun _ => rfl) (hK _ _ (hJ.grow hLi (by simp) (by simp) (Below.refl _ _)) rfl veL_same)⟩
  ·
   exact .inr ⟨rfl, fun K' hK => wp_alloc 23 rfl (.agg (cS zS)) zv23 (hK _ _ (hJ.alloc hLi (n := 3) rfl (by simp) (by simp)) trivial (veL_flat rfl))⟩
  ·
   have hLa := (hd 14 (by decide) (by kernel_rfl)).1
   obtain ⟨kb, kC, ke, kge, ksz, kcl⟩ := hJ.bx (14, 3, 23) (by simp) hLa
   have x18 : aa.tmps[18]? = some (.pointer (some ⟨kb, 0, none⟩)) := (hin 14 18 rfl).trans (congrArg some ke)
   have x119 : aa.tmps[119]? = some (.agg (cS (meetS (mulT (expT (ofV (m * a) (m * b) (m * c))) (expT (ofV (n * a) (n * b) (n * c)))).a.x (expT (ofV ((m + n) * a) ((m + n) * b) ((m + n) * c))).a.x))) := ((hin 12 119 rfl).trans (congrArg some (show uu 12 = .agg (cS (meetS (mulT (expT (ofV (m * a) (m * b) (m * c))) (expT (ofV (n * a) (n * b) (n * c)))).a.x (expT (ofV ((m + n) * a) ((m + n) * b) ((m + n) * c))).a.x)) from (hd 12 (by decide) (by kernel_rfl)).2)))
   clear hd hev hin
   simp only [List.getElem_cons_succ, List.getElem_cons_zero]
   clear hl
   refine .inr ⟨rfl, fun K' hK => ?_⟩
   have HK := Lib.hid hK
   clear hK
   refine wp_store 23 (.tmp 18) (.tmp 119) rfl 0 kb 0 kC 23 3 (cS (meetS (mulT (expT (ofV (m * a) (m * b) (m * c))) (expT (ofV (n * a) (n * b) (n * c)))).a.x (expT (ofV ((m + n) * a) ((m + n) * b) ((m + n) * c))).a.x)).toList (hJ.em.join kge kcl) rfl (eval_tmp x18) (by rw [eval_tmp x119]; rfl) sz23 (by kernel_rfl) (by rw [ksz]; decide) (by kernel_rfl) (fun ww2 hE hk hz => ?_)
   rw [putC_full (show kC.size = (cS (meetS (mulT (expT (ofV (m * a) (m * b) (m * c))) (expT (ofV (n * a) (n * b) (n * c)))).a.x (expT (ofV ((m + n) * a) ((m + n) * b) ((m + n) * c))).a.x)).toList.length from ksz), Array.toArray_toList] at hE
   exact HK.out undef _ (hJ.store (a := 14) (n := 3) (T := 23) (Cn := (cS (meetS (mulT (expT (ofV (m * a) (m * b) (m * c))) (expT (ofV (n * a) (n * b) (n * c)))).a.x (expT (ofV ((m + n) * a) ((m + n) * b) ((m + n) * c))).a.x))) hLi (by simp) (by simp) (by simp) (by simp) (by simp) (by simp) hLa ke kge rfl hE hk hz) trivial (veL_flat rfl)
  ·
   exact .inr ⟨rfl, fun K' hK => wp_asgn (.tmp 120) rfl (eval_tmp ((hin 13 120 rfl).trans (congrArg some (show uu 13 = .bool true from (hd 13 (by decide) (by kernel_rfl)).2)))) (hK _ _ (hJ.grow hLi (by simp) (by simp) (Below.refl _ _)) rfl veL_same)⟩
 clear hM
 intro LL uu W20 hLL hJm hd
 have e_0 : uu 0 = .int .i64 0 := hd 0 (by decide)
 have e_1 : uu 1 = .int .i64 0 := hd 1 (by decide)
 have e_2 : uu 2 = .pointer (some ⟨bk4, 0, none⟩) := hd 2 (by decide)
 have e_3 : uu 3 = .pointer (some ⟨bk4, 0, none⟩) := hd 3 (by decide)
 have e_4 : uu 4 = .agg (cS (mulT (expT (ofV (m * a) (m * b) (m * c))) (expT (ofV (n * a) (n * b) (n * c)))).a.x) := hd 4 (by decide)
 have e_5 : uu 5 = .int .i64 0 := hd 5 (by decide)
 have e_6 : uu 6 = .int .i64 0 := hd 6 (by decide)
 have e_7 : uu 7 = .pointer (some ⟨bk3, 0, none⟩) := hd 7 (by decide)
 have e_8 : uu 8 = .pointer (some ⟨bk3, 0, none⟩) := hd 8 (by decide)
 have e_9 : uu 9 = .agg (cS (expT (ofV ((m + n) * a) ((m + n) * b) ((m + n) * c))).a.x) := hd 9 (by decide)
 have e_10 : uu 10 = .tuple #[.agg (cS (meetS (mulT (expT (ofV (m * a) (m * b) (m * c))) (expT (ofV (n * a) (n * b) (n * c)))).a.x (expT (ofV ((m + n) * a) ((m + n) * b) ((m + n) * c))).a.x)), .bool true] := hd 10 (by decide)
 have e_11 : uu 11 = .tuple #[.agg (cS (meetS (mulT (expT (ofV (m * a) (m * b) (m * c))) (expT (ofV (n * a) (n * b) (n * c)))).a.x (expT (ofV ((m + n) * a) ((m + n) * b) ((m + n) * c))).a.x)), .bool true] := hd 11 (by decide)
 have e_12 : uu 12 = .agg (cS (meetS (mulT (expT (ofV (m * a) (m * b) (m * c))) (expT (ofV (n * a) (n * b) (n * c)))).a.x (expT (ofV ((m + n) * a) ((m + n) * b) ((m + n) * c))).a.x)) := hd 12 (by decide)
 have e_13 : uu 13 = .bool true := hd 13 (by decide)
 obtain ⟨bk5, kC14, e_14, nge14, ksz14, nB14⟩ := hJm.bx (14, 3, 23) (by simp) (hLL 14 (by decide))
 have e_16 : uu 16 = .bool true := hd 16 (by decide)
 obtain ⟨_, kb15, ke15, kl15⟩ := hJm.st (15, 14, (cS (meetS (mulT (expT (ofV (m * a) (m * b) (m * c))) (expT (ofV (n * a) (n * b) (n * c)))).a.x (expT (ofV ((m + n) * a) ((m + n) * b) ((m + n) * c))).a.x)), 23) (by simp) (hLL 15 (by decide))
 have kq15 : kb15 = bk5 := by
  have hq := ke15.symm.trans e_14
  injection hq with hq
  injection hq with hq
  injection hq with hq
 subst kq15
 clear ke15
 have g14 := hJm.em.join nge14 kl15
 clear hd hLL
 simp only [layS, Act.put, List.setIfInBounds_toArray, List.set_cons_succ, List.set_cons_zero, Nat.zero_add, Nat.reduceAdd, List.drop_succ_cons, List.drop_zero, List.drop_nil, e_0, e_1, e_2, e_3, e_4, e_5, e_6, e_7, e_8, e_9, e_10, e_11, e_12, e_13, e_14, e_16]
 have hJ20 := g14
 clear hJm e_0 e_1 e_2 e_3 e_4 e_5 e_6 e_7 e_8 e_9 e_10 e_11 e_12 e_13 e_14 e_16 nge14 nB14 ksz14 g14
 have hJ20d := hJ20.sub (List.sublist_cons_self _ _)
 clear hJ20
 go_wp2
 rw [rounds_succ]
 go_wp2
 obtain ⟨m17_20, hm⟩ : ∃ m, m = W20.heap.size := ⟨_, rfl⟩
 have hM : ∀ uu, Jz w m17_20 [(bk4, (cT (mulT (expT (ofV (m * a) (m * b) (m * c))) (expT (ofV (n * a) (n * b) (n * c))))), 50), (bk3, (cT (expT (ofV ((m + n) * a) ((m + n) * b) ((m + n) * c)))), 50), (bk2, (cT (expT (ofV (n * a) (n * b) (n * c)))), 50), (bk1, (cT (expT (ofV (m * a) (m * b) (m * c)))), 50)] [(14, 3, 23)] [(15, 14, (cS (meetS (mulT (expT (ofV (m * a) (m * b) (m * c))) (expT (ofV (n * a) (n * b) (n * c)))).a.y (expT (ofV ((m + n) * a) ((m + n) * b) ((m + n) * c))).a.y)), 23)] (fun _ => false) uu W20.drew := fun uu => by rw [hm]; exact Jz.start hJ20d uu
 clear hm hJ20d
 refine wp_region_y 17 [some 108, some 109, some 110, some 111, some 112, some 113, some 114, some 115, some 116, some 117, some 118, some 107, some 119, some 120, some 18, none, some 19] (veL m17_20 [.eq (.int .i64 0), .eq (.int .i64 1), .eq (.pointer (some ⟨bk4, 0, none⟩)), .eq (.pointer (some ⟨bk4, 3, none⟩)), .eq (.agg (cS (mulT (expT (ofV (m * a) (m * b) (m * c))) (expT (ofV (n * a) (n * b) (n * c)))).a.y)), .eq (.int .i64 0), .eq (.int .i64 1), .eq (.pointer (some ⟨bk3, 0, none⟩)), .eq (.pointer (some ⟨bk3, 3, none⟩)), .eq (.agg (cS (expT (ofV ((m + n) * a) ((m + n) * b) ((m + n) * c))).a.y)), .eq (.tuple #[.agg (cS (meetS (mulT (expT (ofV (m * a) (m * b) (m * c))) (expT (ofV (n * a) (n * b) (n * c)))).a.y (expT (ofV ((m + n) * a) ((m + n) * b) ((m + n) * c))).a.y)), .bool true]), .eq (.tuple #[.agg (cS (meetS (mulT (expT (ofV (m * a) (m * b) (m * c))) (expT (ofV (n * a) (n * b) (n * c)))).a.y (expT (ofV ((m + n) * a) ((m + n) * b) ((m + n) * c))).a.y)), .bool true]), .eq (.agg (cS (meetS (mulT (expT (ofV (m * a) (m * b) (m * c))) (expT (ofV (n * a) (n * b) (n * c)))).a.y (expT (ofV ((m + n) * a) ((m + n) * b) ((m + n) * c))).a.y))), .eq (.bool true), .any, .any, .eq (.bool true)]) (Jz w m17_20 [(bk4, (cT (mulT (expT (ofV (m * a) (m * b) (m * c))) (expT (ofV (n * a) (n * b) (n * c))))), 50), (bk3, (cT (expT (ofV ((m + n) * a) ((m + n) * b) ((m + n) * c)))), 50), (bk2, (cT (expT (ofV (n * a) (n * b) (n * c)))), 50), (bk1, (cT (expT (ofV (m * a) (m * b) (m * c)))), 50)] [(14, 3, 23)] [(15, 14, (cS (meetS (mulT (expT (ofV (m * a) (m * b) (m * c))) (expT (ofV (n * a) (n * b) (n * c)))).a.y (expT (ofV ((m + n) * a) ((m + n) * b) ((m + n) * c))).a.y)), 23)]) (by kernel_rfl) (by kernel_rfl) (by rfl) (by decide) (by rfl) hM ?_ ?_
 ·
  intro i hl hi LL uu ww aa hLi hJ hd hev hin
  clear hM
  obtain rfl | rfl | rfl | rfl | rfl | rfl | rfl | rfl | rfl | rfl | rfl | rfl | rfl | rfl | rfl | rfl | rfl : i = 0 ∨ i = 1 ∨ i = 2 ∨ i = 3 ∨ i = 4 ∨ i = 5 ∨ i = 6 ∨ i = 7 ∨ i = 8 ∨ i = 9 ∨ i = 10 ∨ i = 11 ∨ i = 12 ∨ i = 13 ∨ i = 14 ∨ i = 15 ∨ i = 16 := by omega
  ·
   exact .inr ⟨rfl, fun K' hK => wp_move (.tmp 16) rfl (eval_tmp ((hev 16 (by decide)).trans rfl)) (hK _ _ (hJ.grow hLi (by simp) (by simp) (Below.refl _ _)) rfl veL_same)⟩
  ·
   exact .inr ⟨rfl, fun K' hK => wp_move (.tmp 17) rfl (eval_tmp ((hev 17 (by decide)).trans rfl)) (hK _ _ (hJ.grow hLi (by simp) (by simp) (Below.refl _ _)) rfl veL_same)⟩
  ·
   exact .inr ⟨rfl, fun K' hK => wp_ixa 50 (.tmp 15) (.tmp 108) rfl (eval_tmp ((hev 15 (by decide)).trans rfl)) (eval_tmp ((hin 0 108 rfl).trans (congrArg some (show uu 0 = .int .i64 0 from (hd 0 (by decide) (by kernel_rfl)).2)))) (fun _ => by kernel_rfl) (hK _ _ (hJ.grow hLi (by simp) (by simp) (Below.refl _ _)) rfl veL_same)⟩
  ·
   exact .inr ⟨rfl, fun K' hK => wp_ixa 25 (.tmp 110) (.tmp 109) rfl (eval_tmp ((hin 2 110 rfl).trans (congrArg some (show uu 2 = .pointer (some ⟨bk4, 0, none⟩) from (hd 2 (by decide) (by kernel_rfl)).2)))) (eval_tmp ((hin 1 109 rfl).trans (congrArg some (show uu 1 = .int .i64 1 from (hd 1 (by decide) (by kernel_rfl)).2)))) (fun _ => by kernel_rfl) (hK _ _ (hJ.grow hLi (by simp) (by simp) (Below.refl _ _)) rfl veL_same)⟩
  ·
   exact .inr ⟨rfl, fun K' hK => wp_load 23 (.tmp 111) rfl bk4 3 3 (cT (mulT (expT (ofV (m * a) (m * b) (m * c))) (expT (ofV (n * a) (n * b) (n * c))))) (cS (mulT (expT (ofV (m * a) (m * b) (m * c))) (expT (ofV (n * a) (n * b) (n * c)))).a.y) 50 (hJ.em.es.at' _ (List.mem_of_getElem? (i := 0) rfl)) (eval_tmp ((hin 3 111 rfl).trans (congrArg some (show uu 3 = .pointer (some ⟨bk4, 3, none⟩) from (hd 3 (by decide) (by kernel_rfl)).2)))) ag23 sz23 (Nat.le_of_ble_eq_true (by kernel_rfl)) (by kernel_rfl) (hK _ _ (hJ.grow hLi (by simp) (by simp) (Below.refl _ _)) rfl veL_same)⟩
  ·
   exact .inr ⟨rfl, fun K' hK => wp_move (.tmp 16) rfl (eval_tmp ((hev 16 (by decide)).trans rfl)) (hK _ _ (hJ.grow hLi (by simp) (by simp) (Below.refl _ _)) rfl veL_same)⟩
  ·
   exact .inr ⟨rfl, fun K' hK => wp_move (.tmp 17) rfl (eval_tmp ((hev 17 (by decide)).trans rfl)) (hK _ _ (hJ.grow hLi (by simp) (by simp) (Below.refl _ _)) rfl veL_same)⟩
  ·
   exact .inr ⟨rfl, fun K' hK => wp_ixa 50 (.tmp 14) (.tmp 113) rfl (eval_tmp ((hev 14 (by decide)).trans rfl)) (eval_tmp ((hin 5 113 rfl).trans (congrArg some (show uu 5 = .int .i64 0 from (hd 5 (by decide) (by kernel_rfl)).2)))) (fun _ => by kernel_rfl) (hK _ _ (hJ.grow hLi (by simp) (by simp) (Below.refl _ _)) rfl veL_same)⟩
  ·
   exact .inr ⟨rfl, fun K' hK => wp_ixa 25 (.tmp 115) (.tmp 114) rfl (eval_tmp ((hin 7 115 rfl).trans (congrArg some (show uu 7 = .pointer (some ⟨bk3, 0, none⟩) from (hd 7 (by decide) (by kernel_rfl)).2)))) (eval_tmp ((hin 6 114 rfl).trans (congrArg some (show uu 6 = .int .i64 1 from (hd 6 (by decide) (by kernel_rfl)).2)))) (fun _ => by kernel_rfl) (hK _ _ (hJ.grow hLi (by simp) (by simp) (Below.refl _ _)) rfl veL_same)⟩
  ·
   exact .inr ⟨rfl, fun K' hK => wp_load 23 (.tmp 116) rfl bk3 3 3 (cT (expT (ofV ((m + n) * a) ((m + n) * b) ((m + n) * c)))) (cS (expT (ofV ((m + n) * a) ((m + n) * b) ((m + n) * c))).a.y) 50 (hJ.em.es.at' _ (List.mem_of_getElem? (i := 1) rfl)) (eval_tmp ((hin 8 116 rfl).trans (congrArg some (show uu 8 = .pointer (some ⟨bk3, 3, none⟩) from (hd 8 (by decide) (by kernel_rfl)).2)))) ag23 sz23 (Nat.le_of_ble_eq_true (by kernel_rfl)) (by kernel_rfl) (hK _ _ (hJ.grow hLi (by simp) (by simp) (Below.refl _ _)) rfl veL_same)⟩
  ·
   exact .inr ⟨rfl, fun K' hK => wp_callv (.func 41) #[.tmp 112, .tmp 117] _ 41 #[] #[.agg (cS (mulT (expT (ofV (m * a) (m * b) (m * c))) (expT (ofV (n * a) (n * b) (n * c)))).a.y), .agg (cS (expT (ofV ((m + n) * a) ((m + n) * b) ((m + n) * c))).a.y)] #[.agg (cS (mulT (expT (ofV (m * a) (m * b) (m * c))) (expT (ofV (n * a) (n * b) (n * c)))).a.y), .agg (cS (expT (ofV ((m + n) * a) ((m + n) * b) ((m + n) * c))).a.y)] rfl rfl (map2 (eval_tmp ((hin 4 112 rfl).trans (congrArg some (show uu 4 = .agg (cS (mulT (expT (ofV (m * a) (m * b) (m * c))) (expT (ofV (n * a) (n * b) (n * c)))).a.y) from (hd 4 (by decide) (by kernel_rfl)).2)))) (eval_tmp ((hin 9 117 rfl).trans (congrArg some (show uu 9 = .agg (cS (expT (ofV ((m + n) * a) ((m + n) * b) ((m + n) * c))).a.y) from (hd 9 (by decide) (by kernel_rfl)).2))))) (by kernel_rfl) (fun _ _ => by kernel_rfl) (meet_yes HM.out.1.2.1 ww) (fun _ hB => (hK _ _ (hJ.grow hLi (by simp) (by simp) hB) rfl (veL_flat rfl)))⟩
  ·
   exact .inr ⟨rfl, fun K' hK => wp_move (.tmp 118) rfl (eval_tmp ((hin 10 118 rfl).trans (congrArg some (show uu 10 = .tuple #[.agg (cS (meetS (mulT (expT (ofV (m * a) (m * b) (m * c))) (expT (ofV (n * a) (n * b) (n * c)))).a.y (expT (ofV ((m + n) * a) ((m + n) * b) ((m + n) * c))).a.y)), .bool true] from (hd 10 (by decide) (by kernel_rfl)).2)))) (hK _ _ (hJ.grow hLi (by simp) (by simp) (Below.refl _ _)) rfl veL_same)⟩
  ·
   exact .inr ⟨rfl, fun K' hK => wp_ext (.tmp 107) 0 rfl (eval_tmp ((hin 11 107 rfl).trans (congrArg some (show uu 11 = .tuple #[.agg (cS (meetS (mulT (expT (ofV (m * a) (m * b) (m * c))) (expT (ofV (n * a) (n * b) (n * c)))).a.y (expT (ofV ((m + n) * a) ((m + n) * b) ((m + n) * c))).a.y)), .bool true] from (hd 11 (by decide) (by kernel_rfl)).2)))) (fun _ => rfl) (hK _ _ (hJ.grow hLi (by simp) (by simp) (Below.refl _ _)) rfl veL_same)⟩
  ·
   exact .inr ⟨rfl, fun K' hK => wp_ext (.tmp 107) 1 rfl (eval_tmp ((hin 11 107 rfl).trans (congrArg some (show uu 11 = .tuple #[.agg (cS (meetS (mulT (expT (ofV (m * a) (m * b) (m * c))) (expT (ofV (n * a) (n * b) (n * c)))).a.y (expT (ofV ((m + n) * a) ((m + n) * b) ((m + n) * c))).a.y)), .bool true] from (hd 11 (by decide) (by kernel_rfl)).2)))) (fun _ => rfl) (hK _ _ (hJ.grow hLi (by simp) (by simp) (Below.refl _ _)) rfl veL_same)⟩
  ·
   exact .inr ⟨rfl, fun K' hK => wp_alloc 23 rfl (.agg (cS zS)) zv23 (hK _ _ (hJ.alloc hLi (n := 3) rfl (by simp) (by simp)) trivial (veL_flat rfl))⟩
  ·
   have hLa := (hd 14 (by decide) (by kernel_rfl)).1
   obtain ⟨kb, kC, ke, kge, ksz, kcl⟩ := hJ.bx (14, 3, 23) (by simp) hLa
   have x18 : aa.tmps[18]? = some (.pointer (some ⟨kb, 0, none⟩)) := (hin 14 18 rfl).trans (congrArg some ke)
   have x119 : aa.tmps[119]? = some (.agg (cS (meetS (mulT (expT (ofV (m * a) (m * b) (m * c))) (expT (ofV (n * a) (n * b) (n * c)))).a.y (expT (ofV ((m + n) * a) ((m + n) * b) ((m + n) * c))).a.y))) := ((hin 12 119 rfl).trans (congrArg some (show uu 12 = .agg (cS (meetS (mulT (expT (ofV (m * a) (m * b) (m * c))) (expT (ofV (n * a) (n * b) (n * c)))).a.y (expT (ofV ((m + n) * a) ((m + n) * b) ((m + n) * c))).a.y)) from (hd 12 (by decide) (by kernel_rfl)).2)))
   clear hd hev hin
   simp only [List.getElem_cons_succ, List.getElem_cons_zero]
   clear hl
   refine .inr ⟨rfl, fun K' hK => ?_⟩
   have HK := Lib.hid hK
   clear hK
   refine wp_store 23 (.tmp 18) (.tmp 119) rfl 0 kb 0 kC 23 3 (cS (meetS (mulT (expT (ofV (m * a) (m * b) (m * c))) (expT (ofV (n * a) (n * b) (n * c)))).a.y (expT (ofV ((m + n) * a) ((m + n) * b) ((m + n) * c))).a.y)).toList (hJ.em.join kge kcl) rfl (eval_tmp x18) (by rw [eval_tmp x119]; rfl) sz23 (by kernel_rfl) (by rw [ksz]; decide) (by kernel_rfl) (fun ww2 hE hk hz => ?_)
   rw [putC_full (show kC.size = (cS (meetS (mulT (expT (ofV (m * a) (m * b) (m * c))) (expT (ofV (n * a) (n * b) (n * c)))).a.y (expT (ofV ((m + n) * a) ((m + n) * b) ((m + n) * c))).a.y)).toList.length from ksz), Array.toArray_toList] at hE
   exact HK.out undef _ (hJ.store (a := 14) (n := 3) (T := 23) (Cn := (cS (meetS (mulT (expT (ofV (m * a) (m * b) (m * c))) (expT (ofV (n * a) (n * b) (n * c)))).a.y (expT (ofV ((m + n) * a) ((m + n) * b) ((m + n) * c))).a.y))) hLi (by simp) (by simp) (by simp) (by simp) (by simp) (by simp) hLa ke kge rfl hE hk hz) trivial (veL_flat rfl)
  ·
   exact .inr ⟨rfl, fun K' hK => wp_asgn (.tmp 120) rfl (eval_tmp ((hin 13 120 rfl).trans (congrArg some (show uu 13 = .bool true from (hd 13 (by decide) (by kernel_rfl)).2)))) (hK _ _ (hJ.grow hLi (by simp) (by simp) (Below.refl _ _)) rfl veL_same)⟩
 clear hM
 intro LL uu W21 hLL hJm hd
 have e_0 : uu 0 = .int .i64 0 := hd 0 (by decide)
 have e_1 : uu 1 = .int .i64 1 := hd 1 (by decide)
 have e_2 : uu 2 = .pointer (some ⟨bk4, 0, none⟩) := hd 2 (by decide)
 have e_3 : uu 3 = .pointer (some ⟨bk4, 3, none⟩) := hd 3 (by decide)
 have e_4 : uu 4 = .agg (cS (mulT (expT (ofV (m * a) (m * b) (m * c))) (expT (ofV (n * a) (n * b) (n * c)))).a.y) := hd 4 (by decide)
 have e_5 : uu 5 = .int .i64 0 := hd 5 (by decide)
 have e_6 : uu 6 = .int .i64 1 := hd 6 (by decide)
 have e_7 : uu 7 = .pointer (some ⟨bk3, 0, none⟩) := hd 7 (by decide)
 have e_8 : uu 8 = .pointer (some ⟨bk3, 3, none⟩) := hd 8 (by decide)
 have e_9 : uu 9 = .agg (cS (expT (ofV ((m + n) * a) ((m + n) * b) ((m + n) * c))).a.y) := hd 9 (by decide)
 have e_10 : uu 10 = .tuple #[.agg (cS (meetS (mulT (expT (ofV (m * a) (m * b) (m * c))) (expT (ofV (n * a) (n * b) (n * c)))).a.y (expT (ofV ((m + n) * a) ((m + n) * b) ((m + n) * c))).a.y)), .bool true] := hd 10 (by decide)
 have e_11 : uu 11 = .tuple #[.agg (cS (meetS (mulT (expT (ofV (m * a) (m * b) (m * c))) (expT (ofV (n * a) (n * b) (n * c)))).a.y (expT (ofV ((m + n) * a) ((m + n) * b) ((m + n) * c))).a.y)), .bool true] := hd 11 (by decide)
 have e_12 : uu 12 = .agg (cS (meetS (mulT (expT (ofV (m * a) (m * b) (m * c))) (expT (ofV (n * a) (n * b) (n * c)))).a.y (expT (ofV ((m + n) * a) ((m + n) * b) ((m + n) * c))).a.y)) := hd 12 (by decide)
 have e_13 : uu 13 = .bool true := hd 13 (by decide)
 obtain ⟨bk6, kC14, e_14, nge14, ksz14, nB14⟩ := hJm.bx (14, 3, 23) (by simp) (hLL 14 (by decide))
 have e_16 : uu 16 = .bool true := hd 16 (by decide)
 obtain ⟨_, kb15, ke15, kl15⟩ := hJm.st (15, 14, (cS (meetS (mulT (expT (ofV (m * a) (m * b) (m * c))) (expT (ofV (n * a) (n * b) (n * c)))).a.y (expT (ofV ((m + n) * a) ((m + n) * b) ((m + n) * c))).a.y)), 23) (by simp) (hLL 15 (by decide))
 have kq15 : kb15 = bk6 := by
  have hq := ke15.symm.trans e_14
  injection hq with hq
  injection hq with hq
  injection hq with hq
 subst kq15
 clear ke15
 have g14 := hJm.em.join nge14 kl15
 clear hd hLL
 simp only [layS, Act.put, List.setIfInBounds_toArray, List.set_cons_succ, List.set_cons_zero, Nat.zero_add, Nat.reduceAdd, List.drop_succ_cons, List.drop_zero, List.drop_nil, e_0, e_1, e_2, e_3, e_4, e_5, e_6, e_7, e_8, e_9, e_10, e_11, e_12, e_13, e_14, e_16]
 have hJ21 := g14
 clear hJm e_0 e_1 e_2 e_3 e_4 e_5 e_6 e_7 e_8 e_9 e_10 e_11 e_12 e_13 e_14 e_16 nge14 nB14 ksz14 g14
 have hJ21d := hJ21.sub (List.sublist_cons_self _ _)
 clear hJ21
 go_wp2
 rw [rounds_succ]
 go_wp2
 obtain ⟨m17_21, hm⟩ : ∃ m, m = W21.heap.size := ⟨_, rfl⟩
 have hM : ∀ uu, Jz w m17_21 [(bk4, (cT (mulT (expT (ofV (m * a) (m * b) (m * c))) (expT (ofV (n * a) (n * b) (n * c))))), 50), (bk3, (cT (expT (ofV ((m + n) * a) ((m + n) * b) ((m + n) * c)))), 50), (bk2, (cT (expT (ofV (n * a) (n * b) (n * c)))), 50), (bk1, (cT (expT (ofV (m * a) (m * b) (m * c)))), 50)] [(14, 3, 23)] [(15, 14, (cS (meetS (mulT (expT (ofV (m * a) (m * b) (m * c))) (expT (ofV (n * a) (n * b) (n * c)))).a.z (expT (ofV ((m + n) * a) ((m + n) * b) ((m + n) * c))).a.z)), 23)] (fun _ => false) uu W21.drew := fun uu => by rw [hm]; exact Jz.start hJ21d uu
 clear hm hJ21d
 refine wp_region_y 17 [some 108, some 109, some 110, some 111, some 112, some 113, some 114, some 115, some 116, some 117, some 118, some 107, some 119, some 120, some 18, none, some 19] (veL m17_21 [.eq (.int .i64 0), .eq (.int .i64 2), .eq (.pointer (some ⟨bk4, 0, none⟩)), .eq (.pointer (some ⟨bk4, 6, none⟩)), .eq (.agg (cS (mulT (expT (ofV (m * a) (m * b) (m * c))) (expT (ofV (n * a) (n * b) (n * c)))).a.z)), .eq (.int .i64 0), .eq (.int .i64 2), .eq (.pointer (some ⟨bk3, 0, none⟩)), .eq (.pointer (some ⟨bk3, 6, none⟩)), .eq (.agg (cS (expT (ofV ((m + n) * a) ((m + n) * b) ((m + n) * c))).a.z)), .eq (.tuple #[.agg (cS (meetS (mulT (expT (ofV (m * a) (m * b) (m * c))) (expT (ofV (n * a) (n * b) (n * c)))).a.z (expT (ofV ((m + n) * a) ((m + n) * b) ((m + n) * c))).a.z)), .bool true]), .eq (.tuple #[.agg (cS (meetS (mulT (expT (ofV (m * a) (m * b) (m * c))) (expT (ofV (n * a) (n * b) (n * c)))).a.z (expT (ofV ((m + n) * a) ((m + n) * b) ((m + n) * c))).a.z)), .bool true]), .eq (.agg (cS (meetS (mulT (expT (ofV (m * a) (m * b) (m * c))) (expT (ofV (n * a) (n * b) (n * c)))).a.z (expT (ofV ((m + n) * a) ((m + n) * b) ((m + n) * c))).a.z))), .eq (.bool true), .any, .any, .eq (.bool true)]) (Jz w m17_21 [(bk4, (cT (mulT (expT (ofV (m * a) (m * b) (m * c))) (expT (ofV (n * a) (n * b) (n * c))))), 50), (bk3, (cT (expT (ofV ((m + n) * a) ((m + n) * b) ((m + n) * c)))), 50), (bk2, (cT (expT (ofV (n * a) (n * b) (n * c)))), 50), (bk1, (cT (expT (ofV (m * a) (m * b) (m * c)))), 50)] [(14, 3, 23)] [(15, 14, (cS (meetS (mulT (expT (ofV (m * a) (m * b) (m * c))) (expT (ofV (n * a) (n * b) (n * c)))).a.z (expT (ofV ((m + n) * a) ((m + n) * b) ((m + n) * c))).a.z)), 23)]) (by kernel_rfl) (by kernel_rfl) (by rfl) (by decide) (by rfl) hM ?_ ?_
 ·
  intro i hl hi LL uu ww aa hLi hJ hd hev hin
  clear hM
  obtain rfl | rfl | rfl | rfl | rfl | rfl | rfl | rfl | rfl | rfl | rfl | rfl | rfl | rfl | rfl | rfl | rfl : i = 0 ∨ i = 1 ∨ i = 2 ∨ i = 3 ∨ i = 4 ∨ i = 5 ∨ i = 6 ∨ i = 7 ∨ i = 8 ∨ i = 9 ∨ i = 10 ∨ i = 11 ∨ i = 12 ∨ i = 13 ∨ i = 14 ∨ i = 15 ∨ i = 16 := by omega
  ·
   exact .inr ⟨rfl, fun K' hK => wp_move (.tmp 16) rfl (eval_tmp ((hev 16 (by decide)).trans rfl)) (hK _ _ (hJ.grow hLi (by simp) (by simp) (Below.refl _ _)) rfl veL_same)⟩
  ·
   exact .inr ⟨rfl, fun K' hK => wp_move (.tmp 17) rfl (eval_tmp ((hev 17 (by decide)).trans rfl)) (hK _ _ (hJ.grow hLi (by simp) (by simp) (Below.refl _ _)) rfl veL_same)⟩
  ·
   exact .inr ⟨rfl, fun K' hK => wp_ixa 50 (.tmp 15) (.tmp 108) rfl (eval_tmp ((hev 15 (by decide)).trans rfl)) (eval_tmp ((hin 0 108 rfl).trans (congrArg some (show uu 0 = .int .i64 0 from (hd 0 (by decide) (by kernel_rfl)).2)))) (fun _ => by kernel_rfl) (hK _ _ (hJ.grow hLi (by simp) (by simp) (Below.refl _ _)) rfl veL_same)⟩
  ·
   exact .inr ⟨rfl, fun K' hK => wp_ixa 25 (.tmp 110) (.tmp 109) rfl (eval_tmp ((hin 2 110 rfl).trans (congrArg some (show uu 2 = .pointer (some ⟨bk4, 0, none⟩) from (hd 2 (by decide) (by kernel_rfl)).2)))) (eval_tmp ((hin 1 109 rfl).trans (congrArg some (show uu 1 = .int .i64 2 from (hd 1 (by decide) (by kernel_rfl)).2)))) (fun _ => by kernel_rfl) (hK _ _ (hJ.grow hLi (by simp) (by simp) (Below.refl _ _)) rfl veL_same)⟩
  ·
   exact .inr ⟨rfl, fun K' hK => wp_load 23 (.tmp 111) rfl bk4 6 3 (cT (mulT (expT (ofV (m * a) (m * b) (m * c))) (expT (ofV (n * a) (n * b) (n * c))))) (cS (mulT (expT (ofV (m * a) (m * b) (m * c))) (expT (ofV (n * a) (n * b) (n * c)))).a.z) 50 (hJ.em.es.at' _ (List.mem_of_getElem? (i := 0) rfl)) (eval_tmp ((hin 3 111 rfl).trans (congrArg some (show uu 3 = .pointer (some ⟨bk4, 6, none⟩) from (hd 3 (by decide) (by kernel_rfl)).2)))) ag23 sz23 (Nat.le_of_ble_eq_true (by kernel_rfl)) (by kernel_rfl) (hK _ _ (hJ.grow hLi (by simp) (by simp) (Below.refl _ _)) rfl veL_same)⟩
  ·
   exact .inr ⟨rfl, fun K' hK => wp_move (.tmp 16) rfl (eval_tmp ((hev 16 (by decide)).trans rfl)) (hK _ _ (hJ.grow hLi (by simp) (by simp) (Below.refl _ _)) rfl veL_same)⟩
  ·
   exact .inr ⟨rfl, fun K' hK => wp_move (.tmp 17) rfl (eval_tmp ((hev 17 (by decide)).trans rfl)) (hK _ _ (hJ.grow hLi (by simp) (by simp) (Below.refl _ _)) rfl veL_same)⟩
  ·
   exact .inr ⟨rfl, fun K' hK => wp_ixa 50 (.tmp 14) (.tmp 113) rfl (eval_tmp ((hev 14 (by decide)).trans rfl)) (eval_tmp ((hin 5 113 rfl).trans (congrArg some (show uu 5 = .int .i64 0 from (hd 5 (by decide) (by kernel_rfl)).2)))) (fun _ => by kernel_rfl) (hK _ _ (hJ.grow hLi (by simp) (by simp) (Below.refl _ _)) rfl veL_same)⟩
  ·
   exact .inr ⟨rfl, fun K' hK => wp_ixa 25 (.tmp 115) (.tmp 114) rfl (eval_tmp ((hin 7 115 rfl).trans (congrArg some (show uu 7 = .pointer (some ⟨bk3, 0, none⟩) from (hd 7 (by decide) (by kernel_rfl)).2)))) (eval_tmp ((hin 6 114 rfl).trans (congrArg some (show uu 6 = .int .i64 2 from (hd 6 (by decide) (by kernel_rfl)).2)))) (fun _ => by kernel_rfl) (hK _ _ (hJ.grow hLi (by simp) (by simp) (Below.refl _ _)) rfl veL_same)⟩
  ·
   exact .inr ⟨rfl, fun K' hK => wp_load 23 (.tmp 116) rfl bk3 6 3 (cT (expT (ofV ((m + n) * a) ((m + n) * b) ((m + n) * c)))) (cS (expT (ofV ((m + n) * a) ((m + n) * b) ((m + n) * c))).a.z) 50 (hJ.em.es.at' _ (List.mem_of_getElem? (i := 1) rfl)) (eval_tmp ((hin 8 116 rfl).trans (congrArg some (show uu 8 = .pointer (some ⟨bk3, 6, none⟩) from (hd 8 (by decide) (by kernel_rfl)).2)))) ag23 sz23 (Nat.le_of_ble_eq_true (by kernel_rfl)) (by kernel_rfl) (hK _ _ (hJ.grow hLi (by simp) (by simp) (Below.refl _ _)) rfl veL_same)⟩
  ·
   exact .inr ⟨rfl, fun K' hK => wp_callv (.func 41) #[.tmp 112, .tmp 117] _ 41 #[] #[.agg (cS (mulT (expT (ofV (m * a) (m * b) (m * c))) (expT (ofV (n * a) (n * b) (n * c)))).a.z), .agg (cS (expT (ofV ((m + n) * a) ((m + n) * b) ((m + n) * c))).a.z)] #[.agg (cS (mulT (expT (ofV (m * a) (m * b) (m * c))) (expT (ofV (n * a) (n * b) (n * c)))).a.z), .agg (cS (expT (ofV ((m + n) * a) ((m + n) * b) ((m + n) * c))).a.z)] rfl rfl (map2 (eval_tmp ((hin 4 112 rfl).trans (congrArg some (show uu 4 = .agg (cS (mulT (expT (ofV (m * a) (m * b) (m * c))) (expT (ofV (n * a) (n * b) (n * c)))).a.z) from (hd 4 (by decide) (by kernel_rfl)).2)))) (eval_tmp ((hin 9 117 rfl).trans (congrArg some (show uu 9 = .agg (cS (expT (ofV ((m + n) * a) ((m + n) * b) ((m + n) * c))).a.z) from (hd 9 (by decide) (by kernel_rfl)).2))))) (by kernel_rfl) (fun _ _ => by kernel_rfl) (meet_yes HM.out.1.2.2 ww) (fun _ hB => (hK _ _ (hJ.grow hLi (by simp) (by simp) hB) rfl (veL_flat rfl)))⟩
  ·
   exact .inr ⟨rfl, fun K' hK => wp_move (.tmp 118) rfl (eval_tmp ((hin 10 118 rfl).trans (congrArg some (show uu 10 = .tuple #[.agg (cS (meetS (mulT (expT (ofV (m * a) (m * b) (m * c))) (expT (ofV (n * a) (n * b) (n * c)))).a.z (expT (ofV ((m + n) * a) ((m + n) * b) ((m + n) * c))).a.z)), .bool true] from (hd 10 (by decide) (by kernel_rfl)).2)))) (hK _ _ (hJ.grow hLi (by simp) (by simp) (Below.refl _ _)) rfl veL_same)⟩
  ·
   exact .inr ⟨rfl, fun K' hK => wp_ext (.tmp 107) 0 rfl (eval_tmp ((hin 11 107 rfl).trans (congrArg some (show uu 11 = .tuple #[.agg (cS (meetS (mulT (expT (ofV (m * a) (m * b) (m * c))) (expT (ofV (n * a) (n * b) (n * c)))).a.z (expT (ofV ((m + n) * a) ((m + n) * b) ((m + n) * c))).a.z)), .bool true] from (hd 11 (by decide) (by kernel_rfl)).2)))) (fun _ => rfl) (hK _ _ (hJ.grow hLi (by simp) (by simp) (Below.refl _ _)) rfl veL_same)⟩
  ·
   exact .inr ⟨rfl, fun K' hK => wp_ext (.tmp 107) 1 rfl (eval_tmp ((hin 11 107 rfl).trans (congrArg some (show uu 11 = .tuple #[.agg (cS (meetS (mulT (expT (ofV (m * a) (m * b) (m * c))) (expT (ofV (n * a) (n * b) (n * c)))).a.z (expT (ofV ((m + n) * a) ((m + n) * b) ((m + n) * c))).a.z)), .bool true] from (hd 11 (by decide) (by kernel_rfl)).2)))) (fun _ => rfl) (hK _ _ (hJ.grow hLi (by simp) (by simp) (Below.refl _ _)) rfl veL_same)⟩
  ·
   exact .inr ⟨rfl, fun K' hK => wp_alloc 23 rfl (.agg (cS zS)) zv23 (hK _ _ (hJ.alloc hLi (n := 3) rfl (by simp) (by simp)) trivial (veL_flat rfl))⟩
  ·
   have hLa := (hd 14 (by decide) (by kernel_rfl)).1
   obtain ⟨kb, kC, ke, kge, ksz, kcl⟩ := hJ.bx (14, 3, 23) (by simp) hLa
   have x18 : aa.tmps[18]? = some (.pointer (some ⟨kb, 0, none⟩)) := (hin 14 18 rfl).trans (congrArg some ke)
   have x119 : aa.tmps[119]? = some (.agg (cS (meetS (mulT (expT (ofV (m * a) (m * b) (m * c))) (expT (ofV (n * a) (n * b) (n * c)))).a.z (expT (ofV ((m + n) * a) ((m + n) * b) ((m + n) * c))).a.z))) := ((hin 12 119 rfl).trans (congrArg some (show uu 12 = .agg (cS (meetS (mulT (expT (ofV (m * a) (m * b) (m * c))) (expT (ofV (n * a) (n * b) (n * c)))).a.z (expT (ofV ((m + n) * a) ((m + n) * b) ((m + n) * c))).a.z)) from (hd 12 (by decide) (by kernel_rfl)).2)))
   clear hd hev hin
   simp only [List.getElem_cons_succ, List.getElem_cons_zero]
   clear hl
   refine .inr ⟨rfl, fun K' hK => ?_⟩
   have HK := Lib.hid hK
   clear hK
   refine wp_store 23 (.tmp 18) (.tmp 119) rfl 0 kb 0 kC 23 3 (cS (meetS (mulT (expT (ofV (m * a) (m * b) (m * c))) (expT (ofV (n * a) (n * b) (n * c)))).a.z (expT (ofV ((m + n) * a) ((m + n) * b) ((m + n) * c))).a.z)).toList (hJ.em.join kge kcl) rfl (eval_tmp x18) (by rw [eval_tmp x119]; rfl) sz23 (by kernel_rfl) (by rw [ksz]; decide) (by kernel_rfl) (fun ww2 hE hk hz => ?_)
   rw [putC_full (show kC.size = (cS (meetS (mulT (expT (ofV (m * a) (m * b) (m * c))) (expT (ofV (n * a) (n * b) (n * c)))).a.z (expT (ofV ((m + n) * a) ((m + n) * b) ((m + n) * c))).a.z)).toList.length from ksz), Array.toArray_toList] at hE
   exact HK.out undef _ (hJ.store (a := 14) (n := 3) (T := 23) (Cn := (cS (meetS (mulT (expT (ofV (m * a) (m * b) (m * c))) (expT (ofV (n * a) (n * b) (n * c)))).a.z (expT (ofV ((m + n) * a) ((m + n) * b) ((m + n) * c))).a.z))) hLi (by simp) (by simp) (by simp) (by simp) (by simp) (by simp) hLa ke kge rfl hE hk hz) trivial (veL_flat rfl)
  ·
   exact .inr ⟨rfl, fun K' hK => wp_asgn (.tmp 120) rfl (eval_tmp ((hin 13 120 rfl).trans (congrArg some (show uu 13 = .bool true from (hd 13 (by decide) (by kernel_rfl)).2)))) (hK _ _ (hJ.grow hLi (by simp) (by simp) (Below.refl _ _)) rfl veL_same)⟩
 clear hM
 intro LL uu W22 hLL hJm hd
 have e_0 : uu 0 = .int .i64 0 := hd 0 (by decide)
 have e_1 : uu 1 = .int .i64 2 := hd 1 (by decide)
 have e_2 : uu 2 = .pointer (some ⟨bk4, 0, none⟩) := hd 2 (by decide)
 have e_3 : uu 3 = .pointer (some ⟨bk4, 6, none⟩) := hd 3 (by decide)
 have e_4 : uu 4 = .agg (cS (mulT (expT (ofV (m * a) (m * b) (m * c))) (expT (ofV (n * a) (n * b) (n * c)))).a.z) := hd 4 (by decide)
 have e_5 : uu 5 = .int .i64 0 := hd 5 (by decide)
 have e_6 : uu 6 = .int .i64 2 := hd 6 (by decide)
 have e_7 : uu 7 = .pointer (some ⟨bk3, 0, none⟩) := hd 7 (by decide)
 have e_8 : uu 8 = .pointer (some ⟨bk3, 6, none⟩) := hd 8 (by decide)
 have e_9 : uu 9 = .agg (cS (expT (ofV ((m + n) * a) ((m + n) * b) ((m + n) * c))).a.z) := hd 9 (by decide)
 have e_10 : uu 10 = .tuple #[.agg (cS (meetS (mulT (expT (ofV (m * a) (m * b) (m * c))) (expT (ofV (n * a) (n * b) (n * c)))).a.z (expT (ofV ((m + n) * a) ((m + n) * b) ((m + n) * c))).a.z)), .bool true] := hd 10 (by decide)
 have e_11 : uu 11 = .tuple #[.agg (cS (meetS (mulT (expT (ofV (m * a) (m * b) (m * c))) (expT (ofV (n * a) (n * b) (n * c)))).a.z (expT (ofV ((m + n) * a) ((m + n) * b) ((m + n) * c))).a.z)), .bool true] := hd 11 (by decide)
 have e_12 : uu 12 = .agg (cS (meetS (mulT (expT (ofV (m * a) (m * b) (m * c))) (expT (ofV (n * a) (n * b) (n * c)))).a.z (expT (ofV ((m + n) * a) ((m + n) * b) ((m + n) * c))).a.z)) := hd 12 (by decide)
 have e_13 : uu 13 = .bool true := hd 13 (by decide)
 obtain ⟨bk7, kC14, e_14, nge14, ksz14, nB14⟩ := hJm.bx (14, 3, 23) (by simp) (hLL 14 (by decide))
 have e_16 : uu 16 = .bool true := hd 16 (by decide)
 obtain ⟨_, kb15, ke15, kl15⟩ := hJm.st (15, 14, (cS (meetS (mulT (expT (ofV (m * a) (m * b) (m * c))) (expT (ofV (n * a) (n * b) (n * c)))).a.z (expT (ofV ((m + n) * a) ((m + n) * b) ((m + n) * c))).a.z)), 23) (by simp) (hLL 15 (by decide))
 have kq15 : kb15 = bk7 := by
  have hq := ke15.symm.trans e_14
  injection hq with hq
  injection hq with hq
  injection hq with hq
 subst kq15
 clear ke15
 have g14 := hJm.em.join nge14 kl15
 clear hd hLL
 simp only [layS, Act.put, List.setIfInBounds_toArray, List.set_cons_succ, List.set_cons_zero, Nat.zero_add, Nat.reduceAdd, List.drop_succ_cons, List.drop_zero, List.drop_nil, e_0, e_1, e_2, e_3, e_4, e_5, e_6, e_7, e_8, e_9, e_10, e_11, e_12, e_13, e_14, e_16]
 have hJ22 := g14
 clear hJm e_0 e_1 e_2 e_3 e_4 e_5 e_6 e_7 e_8 e_9 e_10 e_11 e_12 e_13 e_14 e_16 nge14 nB14 ksz14 g14
 have hJ22d := hJ22.sub (List.sublist_cons_self _ _)
 clear hJ22
 go_wp2
 rw [rounds_succ]
 go_wp2
 rw [rounds_succ]
 go_wp2
 refine wp_loop_rounds 4 ?_
 rw [rounds_succ]
 go_wp2
 obtain ⟨m17_22, hm⟩ : ∃ m, m = W22.heap.size := ⟨_, rfl⟩
 have hM : ∀ uu, Jz w m17_22 [(bk4, (cT (mulT (expT (ofV (m * a) (m * b) (m * c))) (expT (ofV (n * a) (n * b) (n * c))))), 50), (bk3, (cT (expT (ofV ((m + n) * a) ((m + n) * b) ((m + n) * c)))), 50), (bk2, (cT (expT (ofV (n * a) (n * b) (n * c)))), 50), (bk1, (cT (expT (ofV (m * a) (m * b) (m * c)))), 50)] [(14, 3, 23)] [(15, 14, (cS (meetS (mulT (expT (ofV (m * a) (m * b) (m * c))) (expT (ofV (n * a) (n * b) (n * c)))).b.x (expT (ofV ((m + n) * a) ((m + n) * b) ((m + n) * c))).b.x)), 23)] (fun _ => false) uu W22.drew := fun uu => by rw [hm]; exact Jz.start hJ22d uu
 clear hm hJ22d
 refine wp_region_y 17 [some 108, some 109, some 110, some 111, some 112, some 113, some 114, some 115, some 116, some 117, some 118, some 107, some 119, some 120, some 18, none, some 19] (veL m17_22 [.eq (.int .i64 1), .eq (.int .i64 0), .eq (.pointer (some ⟨bk4, 9, none⟩)), .eq (.pointer (some ⟨bk4, 9, none⟩)), .eq (.agg (cS (mulT (expT (ofV (m * a) (m * b) (m * c))) (expT (ofV (n * a) (n * b) (n * c)))).b.x)), .eq (.int .i64 1), .eq (.int .i64 0), .eq (.pointer (some ⟨bk3, 9, none⟩)), .eq (.pointer (some ⟨bk3, 9, none⟩)), .eq (.agg (cS (expT (ofV ((m + n) * a) ((m + n) * b) ((m + n) * c))).b.x)), .eq (.tuple #[.agg (cS (meetS (mulT (expT (ofV (m * a) (m * b) (m * c))) (expT (ofV (n * a) (n * b) (n * c)))).b.x (expT (ofV ((m + n) * a) ((m + n) * b) ((m + n) * c))).b.x)), .bool true]), .eq (.tuple #[.agg (cS (meetS (mulT (expT (ofV (m * a) (m * b) (m * c))) (expT (ofV (n * a) (n * b) (n * c)))).b.x (expT (ofV ((m + n) * a) ((m + n) * b) ((m + n) * c))).b.x)), .bool true]), .eq (.agg (cS (meetS (mulT (expT (ofV (m * a) (m * b) (m * c))) (expT (ofV (n * a) (n * b) (n * c)))).b.x (expT (ofV ((m + n) * a) ((m + n) * b) ((m + n) * c))).b.x))), .eq (.bool true), .any, .any, .eq (.bool true)]) (Jz w m17_22 [(bk4, (cT (mulT (expT (ofV (m * a) (m * b) (m * c))) (expT (ofV (n * a) (n * b) (n * c))))), 50), (bk3, (cT (expT (ofV ((m + n) * a) ((m + n) * b) ((m + n) * c)))), 50), (bk2, (cT (expT (ofV (n * a) (n * b) (n * c)))), 50), (bk1, (cT (expT (ofV (m * a) (m * b) (m * c)))), 50)] [(14, 3, 23)] [(15, 14, (cS (meetS (mulT (expT (ofV (m * a) (m * b) (m * c))) (expT (ofV (n * a) (n * b) (n * c)))).b.x (expT (ofV ((m + n) * a) ((m + n) * b) ((m + n) * c))).b.x)), 23)]) (by kernel_rfl) (by kernel_rfl) (by rfl) (by decide) (by rfl) hM ?_ ?_
 ·
  intro i hl hi LL uu ww aa hLi hJ hd hev hin
  clear hM
  obtain rfl | rfl | rfl | rfl | rfl | rfl | rfl | rfl | rfl | rfl | rfl | rfl | rfl | rfl | rfl | rfl | rfl : i = 0 ∨ i = 1 ∨ i = 2 ∨ i = 3 ∨ i = 4 ∨ i = 5 ∨ i = 6 ∨ i = 7 ∨ i = 8 ∨ i = 9 ∨ i = 10 ∨ i = 11 ∨ i = 12 ∨ i = 13 ∨ i = 14 ∨ i = 15 ∨ i = 16 := by omega
  ·
   exact .inr ⟨rfl, fun K' hK => wp_move (.tmp 16) rfl (eval_tmp ((hev 16 (by decide)).trans rfl)) (hK _ _ (hJ.grow hLi (by simp) (by simp) (Below.refl _ _)) rfl veL_same)⟩
  ·
   exact .inr ⟨rfl, fun K' hK => wp_move (.tmp 17) rfl (eval_tmp ((hev 17 (by decide)).trans rfl)) (hK _ _ (hJ.grow hLi (by simp) (by simp) (Below.refl _ _)) rfl veL_same)⟩
  ·
   exact .inr ⟨rfl, fun K' hK => wp_ixa 50 (.tmp 15) (.tmp 108) rfl (eval_tmp ((hev 15 (by decide)).trans rfl)) (eval_tmp ((hin 0 108 rfl).trans (congrArg some (show uu 0 = .int .i64 1 from (hd 0 (by decide) (by kernel_rfl)).2)))) (fun _ => by kernel_rfl) (hK _ _ (hJ.grow hLi (by simp) (by simp) (Below.refl _ _)) rfl veL_same)⟩
  ·
   exact .inr ⟨rfl, fun K' hK => wp_ixa 25 (.tmp 110) (.tmp 109) rfl (eval_tmp ((hin 2 110 rfl).trans (congrArg some (show uu 2 = .pointer (some ⟨bk4, 9, none⟩) from (hd 2 (by decide) (by kernel_rfl)).2)))) (eval_tmp ((hin 1 109 rfl).trans (congrArg some (show uu 1 = .int .i64 0 from (hd 1 (by decide) (by kernel_rfl)).2)))) (fun _ => by kernel_rfl) (hK _ _ (hJ.grow hLi (by simp) (by simp) (Below.refl _ _)) rfl veL_same)⟩
  ·
   exact .inr ⟨rfl, fun K' hK => wp_load 23 (.tmp 111) rfl bk4 9 3 (cT (mulT (expT (ofV (m * a) (m * b) (m * c))) (expT (ofV (n * a) (n * b) (n * c))))) (cS (mulT (expT (ofV (m * a) (m * b) (m * c))) (expT (ofV (n * a) (n * b) (n * c)))).b.x) 50 (hJ.em.es.at' _ (List.mem_of_getElem? (i := 0) rfl)) (eval_tmp ((hin 3 111 rfl).trans (congrArg some (show uu 3 = .pointer (some ⟨bk4, 9, none⟩) from (hd 3 (by decide) (by kernel_rfl)).2)))) ag23 sz23 (Nat.le_of_ble_eq_true (by kernel_rfl)) (by kernel_rfl) (hK _ _ (hJ.grow hLi (by simp) (by simp) (Below.refl _ _)) rfl veL_same)⟩
  ·
   exact .inr ⟨rfl, fun K' hK => wp_move (.tmp 16) rfl (eval_tmp ((hev 16 (by decide)).trans rfl)) (hK _ _ (hJ.grow hLi (by simp) (by simp) (Below.refl _ _)) rfl veL_same)⟩
  ·
   exact .inr ⟨rfl, fun K' hK => wp_move (.tmp 17) rfl (eval_tmp ((hev 17 (by decide)).trans rfl)) (hK _ _ (hJ.grow hLi (by simp) (by simp) (Below.refl _ _)) rfl veL_same)⟩
  ·
   exact .inr ⟨rfl, fun K' hK => wp_ixa 50 (.tmp 14) (.tmp 113) rfl (eval_tmp ((hev 14 (by decide)).trans rfl)) (eval_tmp ((hin 5 113 rfl).trans (congrArg some (show uu 5 = .int .i64 1 from (hd 5 (by decide) (by kernel_rfl)).2)))) (fun _ => by kernel_rfl) (hK _ _ (hJ.grow hLi (by simp) (by simp) (Below.refl _ _)) rfl veL_same)⟩
  ·
   exact .inr ⟨rfl, fun K' hK => wp_ixa 25 (.tmp 115) (.tmp 114) rfl (eval_tmp ((hin 7 115 rfl).trans (congrArg some (show uu 7 = .pointer (some ⟨bk3, 9, none⟩) from (hd 7 (by decide) (by kernel_rfl)).2)))) (eval_tmp ((hin 6 114 rfl).trans (congrArg some (show uu 6 = .int .i64 0 from (hd 6 (by decide) (by kernel_rfl)).2)))) (fun _ => by kernel_rfl) (hK _ _ (hJ.grow hLi (by simp) (by simp) (Below.refl _ _)) rfl veL_same)⟩
  ·
   exact .inr ⟨rfl, fun K' hK => wp_load 23 (.tmp 116) rfl bk3 9 3 (cT (expT (ofV ((m + n) * a) ((m + n) * b) ((m + n) * c)))) (cS (expT (ofV ((m + n) * a) ((m + n) * b) ((m + n) * c))).b.x) 50 (hJ.em.es.at' _ (List.mem_of_getElem? (i := 1) rfl)) (eval_tmp ((hin 8 116 rfl).trans (congrArg some (show uu 8 = .pointer (some ⟨bk3, 9, none⟩) from (hd 8 (by decide) (by kernel_rfl)).2)))) ag23 sz23 (Nat.le_of_ble_eq_true (by kernel_rfl)) (by kernel_rfl) (hK _ _ (hJ.grow hLi (by simp) (by simp) (Below.refl _ _)) rfl veL_same)⟩
  ·
   exact .inr ⟨rfl, fun K' hK => wp_callv (.func 41) #[.tmp 112, .tmp 117] _ 41 #[] #[.agg (cS (mulT (expT (ofV (m * a) (m * b) (m * c))) (expT (ofV (n * a) (n * b) (n * c)))).b.x), .agg (cS (expT (ofV ((m + n) * a) ((m + n) * b) ((m + n) * c))).b.x)] #[.agg (cS (mulT (expT (ofV (m * a) (m * b) (m * c))) (expT (ofV (n * a) (n * b) (n * c)))).b.x), .agg (cS (expT (ofV ((m + n) * a) ((m + n) * b) ((m + n) * c))).b.x)] rfl rfl (map2 (eval_tmp ((hin 4 112 rfl).trans (congrArg some (show uu 4 = .agg (cS (mulT (expT (ofV (m * a) (m * b) (m * c))) (expT (ofV (n * a) (n * b) (n * c)))).b.x) from (hd 4 (by decide) (by kernel_rfl)).2)))) (eval_tmp ((hin 9 117 rfl).trans (congrArg some (show uu 9 = .agg (cS (expT (ofV ((m + n) * a) ((m + n) * b) ((m + n) * c))).b.x) from (hd 9 (by decide) (by kernel_rfl)).2))))) (by kernel_rfl) (fun _ _ => by kernel_rfl) (meet_yes HM.out.2.1.1 ww) (fun _ hB => (hK _ _ (hJ.grow hLi (by simp) (by simp) hB) rfl (veL_flat rfl)))⟩
  ·
   exact .inr ⟨rfl, fun K' hK => wp_move (.tmp 118) rfl (eval_tmp ((hin 10 118 rfl).trans (congrArg some (show uu 10 = .tuple #[.agg (cS (meetS (mulT (expT (ofV (m * a) (m * b) (m * c))) (expT (ofV (n * a) (n * b) (n * c)))).b.x (expT (ofV ((m + n) * a) ((m + n) * b) ((m + n) * c))).b.x)), .bool true] from (hd 10 (by decide) (by kernel_rfl)).2)))) (hK _ _ (hJ.grow hLi (by simp) (by simp) (Below.refl _ _)) rfl veL_same)⟩
  ·
   exact .inr ⟨rfl, fun K' hK => wp_ext (.tmp 107) 0 rfl (eval_tmp ((hin 11 107 rfl).trans (congrArg some (show uu 11 = .tuple #[.agg (cS (meetS (mulT (expT (ofV (m * a) (m * b) (m * c))) (expT (ofV (n * a) (n * b) (n * c)))).b.x (expT (ofV ((m + n) * a) ((m + n) * b) ((m + n) * c))).b.x)), .bool true] from (hd 11 (by decide) (by kernel_rfl)).2)))) (fun _ => rfl) (hK _ _ (hJ.grow hLi (by simp) (by simp) (Below.refl _ _)) rfl veL_same)⟩
  ·
   exact .inr ⟨rfl, fun K' hK => wp_ext (.tmp 107) 1 rfl (eval_tmp ((hin 11 107 rfl).trans (congrArg some (show uu 11 = .tuple #[.agg (cS (meetS (mulT (expT (ofV (m * a) (m * b) (m * c))) (expT (ofV (n * a) (n * b) (n * c)))).b.x (expT (ofV ((m + n) * a) ((m + n) * b) ((m + n) * c))).b.x)), .bool true] from (hd 11 (by decide) (by kernel_rfl)).2)))) (fun _ => rfl) (hK _ _ (hJ.grow hLi (by simp) (by simp) (Below.refl _ _)) rfl veL_same)⟩
  ·
   exact .inr ⟨rfl, fun K' hK => wp_alloc 23 rfl (.agg (cS zS)) zv23 (hK _ _ (hJ.alloc hLi (n := 3) rfl (by simp) (by simp)) trivial (veL_flat rfl))⟩
  ·
   have hLa := (hd 14 (by decide) (by kernel_rfl)).1
   obtain ⟨kb, kC, ke, kge, ksz, kcl⟩ := hJ.bx (14, 3, 23) (by simp) hLa
   have x18 : aa.tmps[18]? = some (.pointer (some ⟨kb, 0, none⟩)) := (hin 14 18 rfl).trans (congrArg some ke)
   have x119 : aa.tmps[119]? = some (.agg (cS (meetS (mulT (expT (ofV (m * a) (m * b) (m * c))) (expT (ofV (n * a) (n * b) (n * c)))).b.x (expT (ofV ((m + n) * a) ((m + n) * b) ((m + n) * c))).b.x))) := ((hin 12 119 rfl).trans (congrArg some (show uu 12 = .agg (cS (meetS (mulT (expT (ofV (m * a) (m * b) (m * c))) (expT (ofV (n * a) (n * b) (n * c)))).b.x (expT (ofV ((m + n) * a) ((m + n) * b) ((m + n) * c))).b.x)) from (hd 12 (by decide) (by kernel_rfl)).2)))
   clear hd hev hin
   simp only [List.getElem_cons_succ, List.getElem_cons_zero]
   clear hl
   refine .inr ⟨rfl, fun K' hK => ?_⟩
   have HK := Lib.hid hK
   clear hK
   refine wp_store 23 (.tmp 18) (.tmp 119) rfl 0 kb 0 kC 23 3 (cS (meetS (mulT (expT (ofV (m * a) (m * b) (m * c))) (expT (ofV (n * a) (n * b) (n * c)))).b.x (expT (ofV ((m + n) * a) ((m + n) * b) ((m + n) * c))).b.x)).toList (hJ.em.join kge kcl) rfl (eval_tmp x18) (by rw [eval_tmp x119]; rfl) sz23 (by kernel_rfl) (by rw [ksz]; decide) (by kernel_rfl) (fun ww2 hE hk hz => ?_)
   rw [putC_full (show kC.size = (cS (meetS (mulT (expT (ofV (m * a) (m * b) (m * c))) (expT (ofV (n * a) (n * b) (n * c)))).b.x (expT (ofV ((m + n) * a) ((m + n) * b) ((m + n) * c))).b.x)).toList.length from ksz), Array.toArray_toList] at hE
   exact HK.out undef _ (hJ.store (a := 14) (n := 3) (T := 23) (Cn := (cS (meetS (mulT (expT (ofV (m * a) (m * b) (m * c))) (expT (ofV (n * a) (n * b) (n * c)))).b.x (expT (ofV ((m + n) * a) ((m + n) * b) ((m + n) * c))).b.x))) hLi (by simp) (by simp) (by simp) (by simp) (by simp) (by simp) hLa ke kge rfl hE hk hz) trivial (veL_flat rfl)
  ·
   exact .inr ⟨rfl, fun K' hK => wp_asgn (.tmp 120) rfl (eval_tmp ((hin 13 120 rfl).trans (congrArg some (show uu 13 = .bool true from (hd 13 (by decide) (by kernel_rfl)).2)))) (hK _ _ (hJ.grow hLi (by simp) (by simp) (Below.refl _ _)) rfl veL_same)⟩
 clear hM
 intro LL uu W23 hLL hJm hd
 have e_0 : uu 0 = .int .i64 1 := hd 0 (by decide)
 have e_1 : uu 1 = .int .i64 0 := hd 1 (by decide)
 have e_2 : uu 2 = .pointer (some ⟨bk4, 9, none⟩) := hd 2 (by decide)
 have e_3 : uu 3 = .pointer (some ⟨bk4, 9, none⟩) := hd 3 (by decide)
 have e_4 : uu 4 = .agg (cS (mulT (expT (ofV (m * a) (m * b) (m * c))) (expT (ofV (n * a) (n * b) (n * c)))).b.x) := hd 4 (by decide)
 have e_5 : uu 5 = .int .i64 1 := hd 5 (by decide)
 have e_6 : uu 6 = .int .i64 0 := hd 6 (by decide)
 have e_7 : uu 7 = .pointer (some ⟨bk3, 9, none⟩) := hd 7 (by decide)
 have e_8 : uu 8 = .pointer (some ⟨bk3, 9, none⟩) := hd 8 (by decide)
 have e_9 : uu 9 = .agg (cS (expT (ofV ((m + n) * a) ((m + n) * b) ((m + n) * c))).b.x) := hd 9 (by decide)
 have e_10 : uu 10 = .tuple #[.agg (cS (meetS (mulT (expT (ofV (m * a) (m * b) (m * c))) (expT (ofV (n * a) (n * b) (n * c)))).b.x (expT (ofV ((m + n) * a) ((m + n) * b) ((m + n) * c))).b.x)), .bool true] := hd 10 (by decide)
 have e_11 : uu 11 = .tuple #[.agg (cS (meetS (mulT (expT (ofV (m * a) (m * b) (m * c))) (expT (ofV (n * a) (n * b) (n * c)))).b.x (expT (ofV ((m + n) * a) ((m + n) * b) ((m + n) * c))).b.x)), .bool true] := hd 11 (by decide)
 have e_12 : uu 12 = .agg (cS (meetS (mulT (expT (ofV (m * a) (m * b) (m * c))) (expT (ofV (n * a) (n * b) (n * c)))).b.x (expT (ofV ((m + n) * a) ((m + n) * b) ((m + n) * c))).b.x)) := hd 12 (by decide)
 have e_13 : uu 13 = .bool true := hd 13 (by decide)
 obtain ⟨bk8, kC14, e_14, nge14, ksz14, nB14⟩ := hJm.bx (14, 3, 23) (by simp) (hLL 14 (by decide))
 have e_16 : uu 16 = .bool true := hd 16 (by decide)
 obtain ⟨_, kb15, ke15, kl15⟩ := hJm.st (15, 14, (cS (meetS (mulT (expT (ofV (m * a) (m * b) (m * c))) (expT (ofV (n * a) (n * b) (n * c)))).b.x (expT (ofV ((m + n) * a) ((m + n) * b) ((m + n) * c))).b.x)), 23) (by simp) (hLL 15 (by decide))
 have kq15 : kb15 = bk8 := by
  have hq := ke15.symm.trans e_14
  injection hq with hq
  injection hq with hq
  injection hq with hq
 subst kq15
 clear ke15
 have g14 := hJm.em.join nge14 kl15
 clear hd hLL
 simp only [layS, Act.put, List.setIfInBounds_toArray, List.set_cons_succ, List.set_cons_zero, Nat.zero_add, Nat.reduceAdd, List.drop_succ_cons, List.drop_zero, List.drop_nil, e_0, e_1, e_2, e_3, e_4, e_5, e_6, e_7, e_8, e_9, e_10, e_11, e_12, e_13, e_14, e_16]
 have hJ23 := g14
 clear hJm e_0 e_1 e_2 e_3 e_4 e_5 e_6 e_7 e_8 e_9 e_10 e_11 e_12 e_13 e_14 e_16 nge14 nB14 ksz14 g14
 have hJ23d := hJ23.sub (List.sublist_cons_self _ _)
 clear hJ23
 go_wp2
 rw [rounds_succ]
 go_wp2
 obtain ⟨m17_23, hm⟩ : ∃ m, m = W23.heap.size := ⟨_, rfl⟩
 have hM : ∀ uu, Jz w m17_23 [(bk4, (cT (mulT (expT (ofV (m * a) (m * b) (m * c))) (expT (ofV (n * a) (n * b) (n * c))))), 50), (bk3, (cT (expT (ofV ((m + n) * a) ((m + n) * b) ((m + n) * c)))), 50), (bk2, (cT (expT (ofV (n * a) (n * b) (n * c)))), 50), (bk1, (cT (expT (ofV (m * a) (m * b) (m * c)))), 50)] [(14, 3, 23)] [(15, 14, (cS (meetS (mulT (expT (ofV (m * a) (m * b) (m * c))) (expT (ofV (n * a) (n * b) (n * c)))).b.y (expT (ofV ((m + n) * a) ((m + n) * b) ((m + n) * c))).b.y)), 23)] (fun _ => false) uu W23.drew := fun uu => by rw [hm]; exact Jz.start hJ23d uu
 clear hm hJ23d
 refine wp_region_y 17 [some 108, some 109, some 110, some 111, some 112, some 113, some 114, some 115, some 116, some 117, some 118, some 107, some 119, some 120, some 18, none, some 19] (veL m17_23 [.eq (.int .i64 1), .eq (.int .i64 1), .eq (.pointer (some ⟨bk4, 9, none⟩)), .eq (.pointer (some ⟨bk4, 12, none⟩)), .eq (.agg (cS (mulT (expT (ofV (m * a) (m * b) (m * c))) (expT (ofV (n * a) (n * b) (n * c)))).b.y)), .eq (.int .i64 1), .eq (.int .i64 1), .eq (.pointer (some ⟨bk3, 9, none⟩)), .eq (.pointer (some ⟨bk3, 12, none⟩)), .eq (.agg (cS (expT (ofV ((m + n) * a) ((m + n) * b) ((m + n) * c))).b.y)), .eq (.tuple #[.agg (cS (meetS (mulT (expT (ofV (m * a) (m * b) (m * c))) (expT (ofV (n * a) (n * b) (n * c)))).b.y (expT (ofV ((m + n) * a) ((m + n) * b) ((m + n) * c))).b.y)), .bool true]), .eq (.tuple #[.agg (cS (meetS (mulT (expT (ofV (m * a) (m * b) (m * c))) (expT (ofV (n * a) (n * b) (n * c)))).b.y (expT (ofV ((m + n) * a) ((m + n) * b) ((m + n) * c))).b.y)), .bool true]), .eq (.agg (cS (meetS (mulT (expT (ofV (m * a) (m * b) (m * c))) (expT (ofV (n * a) (n * b) (n * c)))).b.y (expT (ofV ((m + n) * a) ((m + n) * b) ((m + n) * c))).b.y))), .eq (.bool true), .any, .any, .eq (.bool true)]) (Jz w m17_23 [(bk4, (cT (mulT (expT (ofV (m * a) (m * b) (m * c))) (expT (ofV (n * a) (n * b) (n * c))))), 50), (bk3, (cT (expT (ofV ((m + n) * a) ((m + n) * b) ((m + n) * c)))), 50), (bk2, (cT (expT (ofV (n * a) (n * b) (n * c)))), 50), (bk1, (cT (expT (ofV (m * a) (m * b) (m * c)))), 50)] [(14, 3, 23)] [(15, 14, (cS (meetS (mulT (expT (ofV (m * a) (m * b) (m * c))) (expT (ofV (n * a) (n * b) (n * c)))).b.y (expT (ofV ((m + n) * a) ((m + n) * b) ((m + n) * c))).b.y)), 23)]) (by kernel_rfl) (by kernel_rfl) (by rfl) (by decide) (by rfl) hM ?_ ?_
 ·
  intro i hl hi LL uu ww aa hLi hJ hd hev hin
  clear hM
  obtain rfl | rfl | rfl | rfl | rfl | rfl | rfl | rfl | rfl | rfl | rfl | rfl | rfl | rfl | rfl | rfl | rfl : i = 0 ∨ i = 1 ∨ i = 2 ∨ i = 3 ∨ i = 4 ∨ i = 5 ∨ i = 6 ∨ i = 7 ∨ i = 8 ∨ i = 9 ∨ i = 10 ∨ i = 11 ∨ i = 12 ∨ i = 13 ∨ i = 14 ∨ i = 15 ∨ i = 16 := by omega
  ·
   exact .inr ⟨rfl, fun K' hK => wp_move (.tmp 16) rfl (eval_tmp ((hev 16 (by decide)).trans rfl)) (hK _ _ (hJ.grow hLi (by simp) (by simp) (Below.refl _ _)) rfl veL_same)⟩
  ·
   exact .inr ⟨rfl, fun K' hK => wp_move (.tmp 17) rfl (eval_tmp ((hev 17 (by decide)).trans rfl)) (hK _ _ (hJ.grow hLi (by simp) (by simp) (Below.refl _ _)) rfl veL_same)⟩
  ·
   exact .inr ⟨rfl, fun K' hK => wp_ixa 50 (.tmp 15) (.tmp 108) rfl (eval_tmp ((hev 15 (by decide)).trans rfl)) (eval_tmp ((hin 0 108 rfl).trans (congrArg some (show uu 0 = .int .i64 1 from (hd 0 (by decide) (by kernel_rfl)).2)))) (fun _ => by kernel_rfl) (hK _ _ (hJ.grow hLi (by simp) (by simp) (Below.refl _ _)) rfl veL_same)⟩
  ·
   exact .inr ⟨rfl, fun K' hK => wp_ixa 25 (.tmp 110) (.tmp 109) rfl (eval_tmp ((hin 2 110 rfl).trans (congrArg some (show uu 2 = .pointer (some ⟨bk4, 9, none⟩) from (hd 2 (by decide) (by kernel_rfl)).2)))) (eval_tmp ((hin 1 109 rfl).trans (congrArg some (show uu 1 = .int .i64 1 from (hd 1 (by decide) (by kernel_rfl)).2)))) (fun _ => by kernel_rfl) (hK _ _ (hJ.grow hLi (by simp) (by simp) (Below.refl _ _)) rfl veL_same)⟩
  ·
   exact .inr ⟨rfl, fun K' hK => wp_load 23 (.tmp 111) rfl bk4 12 3 (cT (mulT (expT (ofV (m * a) (m * b) (m * c))) (expT (ofV (n * a) (n * b) (n * c))))) (cS (mulT (expT (ofV (m * a) (m * b) (m * c))) (expT (ofV (n * a) (n * b) (n * c)))).b.y) 50 (hJ.em.es.at' _ (List.mem_of_getElem? (i := 0) rfl)) (eval_tmp ((hin 3 111 rfl).trans (congrArg some (show uu 3 = .pointer (some ⟨bk4, 12, none⟩) from (hd 3 (by decide) (by kernel_rfl)).2)))) ag23 sz23 (Nat.le_of_ble_eq_true (by kernel_rfl)) (by kernel_rfl) (hK _ _ (hJ.grow hLi (by simp) (by simp) (Below.refl _ _)) rfl veL_same)⟩
  ·
   exact .inr ⟨rfl, fun K' hK => wp_move (.tmp 16) rfl (eval_tmp ((hev 16 (by decide)).trans rfl)) (hK _ _ (hJ.grow hLi (by simp) (by simp) (Below.refl _ _)) rfl veL_same)⟩
  ·
   exact .inr ⟨rfl, fun K' hK => wp_move (.tmp 17) rfl (eval_tmp ((hev 17 (by decide)).trans rfl)) (hK _ _ (hJ.grow hLi (by simp) (by simp) (Below.refl _ _)) rfl veL_same)⟩
  ·
   exact .inr ⟨rfl, fun K' hK => wp_ixa 50 (.tmp 14) (.tmp 113) rfl (eval_tmp ((hev 14 (by decide)).trans rfl)) (eval_tmp ((hin 5 113 rfl).trans (congrArg some (show uu 5 = .int .i64 1 from (hd 5 (by decide) (by kernel_rfl)).2)))) (fun _ => by kernel_rfl) (hK _ _ (hJ.grow hLi (by simp) (by simp) (Below.refl _ _)) rfl veL_same)⟩
  ·
   exact .inr ⟨rfl, fun K' hK => wp_ixa 25 (.tmp 115) (.tmp 114) rfl (eval_tmp ((hin 7 115 rfl).trans (congrArg some (show uu 7 = .pointer (some ⟨bk3, 9, none⟩) from (hd 7 (by decide) (by kernel_rfl)).2)))) (eval_tmp ((hin 6 114 rfl).trans (congrArg some (show uu 6 = .int .i64 1 from (hd 6 (by decide) (by kernel_rfl)).2)))) (fun _ => by kernel_rfl) (hK _ _ (hJ.grow hLi (by simp) (by simp) (Below.refl _ _)) rfl veL_same)⟩
  ·
   exact .inr ⟨rfl, fun K' hK => wp_load 23 (.tmp 116) rfl bk3 12 3 (cT (expT (ofV ((m + n) * a) ((m + n) * b) ((m + n) * c)))) (cS (expT (ofV ((m + n) * a) ((m + n) * b) ((m + n) * c))).b.y) 50 (hJ.em.es.at' _ (List.mem_of_getElem? (i := 1) rfl)) (eval_tmp ((hin 8 116 rfl).trans (congrArg some (show uu 8 = .pointer (some ⟨bk3, 12, none⟩) from (hd 8 (by decide) (by kernel_rfl)).2)))) ag23 sz23 (Nat.le_of_ble_eq_true (by kernel_rfl)) (by kernel_rfl) (hK _ _ (hJ.grow hLi (by simp) (by simp) (Below.refl _ _)) rfl veL_same)⟩
  ·
   exact .inr ⟨rfl, fun K' hK => wp_callv (.func 41) #[.tmp 112, .tmp 117] _ 41 #[] #[.agg (cS (mulT (expT (ofV (m * a) (m * b) (m * c))) (expT (ofV (n * a) (n * b) (n * c)))).b.y), .agg (cS (expT (ofV ((m + n) * a) ((m + n) * b) ((m + n) * c))).b.y)] #[.agg (cS (mulT (expT (ofV (m * a) (m * b) (m * c))) (expT (ofV (n * a) (n * b) (n * c)))).b.y), .agg (cS (expT (ofV ((m + n) * a) ((m + n) * b) ((m + n) * c))).b.y)] rfl rfl (map2 (eval_tmp ((hin 4 112 rfl).trans (congrArg some (show uu 4 = .agg (cS (mulT (expT (ofV (m * a) (m * b) (m * c))) (expT (ofV (n * a) (n * b) (n * c)))).b.y) from (hd 4 (by decide) (by kernel_rfl)).2)))) (eval_tmp ((hin 9 117 rfl).trans (congrArg some (show uu 9 = .agg (cS (expT (ofV ((m + n) * a) ((m + n) * b) ((m + n) * c))).b.y) from (hd 9 (by decide) (by kernel_rfl)).2))))) (by kernel_rfl) (fun _ _ => by kernel_rfl) (meet_yes HM.out.2.1.2.1 ww) (fun _ hB => (hK _ _ (hJ.grow hLi (by simp) (by simp) hB) rfl (veL_flat rfl)))⟩
  ·
   exact .inr ⟨rfl, fun K' hK => wp_move (.tmp 118) rfl (eval_tmp ((hin 10 118 rfl).trans (congrArg some (show uu 10 = .tuple #[.agg (cS (meetS (mulT (expT (ofV (m * a) (m * b) (m * c))) (expT (ofV (n * a) (n * b) (n * c)))).b.y (expT (ofV ((m + n) * a) ((m + n) * b) ((m + n) * c))).b.y)), .bool true] from (hd 10 (by decide) (by kernel_rfl)).2)))) (hK _ _ (hJ.grow hLi (by simp) (by simp) (Below.refl _ _)) rfl veL_same)⟩
  ·
   exact .inr ⟨rfl, fun K' hK => wp_ext (.tmp 107) 0 rfl (eval_tmp ((hin 11 107 rfl).trans (congrArg some (show uu 11 = .tuple #[.agg (cS (meetS (mulT (expT (ofV (m * a) (m * b) (m * c))) (expT (ofV (n * a) (n * b) (n * c)))).b.y (expT (ofV ((m + n) * a) ((m + n) * b) ((m + n) * c))).b.y)), .bool true] from (hd 11 (by decide) (by kernel_rfl)).2)))) (fun _ => rfl) (hK _ _ (hJ.grow hLi (by simp) (by simp) (Below.refl _ _)) rfl veL_same)⟩
  ·
   exact .inr ⟨rfl, fun K' hK => wp_ext (.tmp 107) 1 rfl (eval_tmp ((hin 11 107 rfl).trans (congrArg some (show uu 11 = .tuple #[.agg (cS (meetS (mulT (expT (ofV (m * a) (m * b) (m * c))) (expT (ofV (n * a) (n * b) (n * c)))).b.y (expT (ofV ((m + n) * a) ((m + n) * b) ((m + n) * c))).b.y)), .bool true] from (hd 11 (by decide) (by kernel_rfl)).2)))) (fun _ => rfl) (hK _ _ (hJ.grow hLi (by simp) (by simp) (Below.refl _ _)) rfl veL_same)⟩
  ·
   exact .inr ⟨rfl, fun K' hK => wp_alloc 23 rfl (.agg (cS zS)) zv23 (hK _ _ (hJ.alloc hLi (n := 3) rfl (by simp) (by simp)) trivial (veL_flat rfl))⟩
  ·
   have hLa := (hd 14 (by decide) (by kernel_rfl)).1
   obtain ⟨kb, kC, ke, kge, ksz, kcl⟩ := hJ.bx (14, 3, 23) (by simp) hLa
   have x18 : aa.tmps[18]? = some (.pointer (some ⟨kb, 0, none⟩)) := (hin 14 18 rfl).trans (congrArg some ke)
   have x119 : aa.tmps[119]? = some (.agg (cS (meetS (mulT (expT (ofV (m * a) (m * b) (m * c))) (expT (ofV (n * a) (n * b) (n * c)))).b.y (expT (ofV ((m + n) * a) ((m + n) * b) ((m + n) * c))).b.y))) := ((hin 12 119 rfl).trans (congrArg some (show uu 12 = .agg (cS (meetS (mulT (expT (ofV (m * a) (m * b) (m * c))) (expT (ofV (n * a) (n * b) (n * c)))).b.y (expT (ofV ((m + n) * a) ((m + n) * b) ((m + n) * c))).b.y)) from (hd 12 (by decide) (by kernel_rfl)).2)))
   clear hd hev hin
   simp only [List.getElem_cons_succ, List.getElem_cons_zero]
   clear hl
   refine .inr ⟨rfl, fun K' hK => ?_⟩
   have HK := Lib.hid hK
   clear hK
   refine wp_store 23 (.tmp 18) (.tmp 119) rfl 0 kb 0 kC 23 3 (cS (meetS (mulT (expT (ofV (m * a) (m * b) (m * c))) (expT (ofV (n * a) (n * b) (n * c)))).b.y (expT (ofV ((m + n) * a) ((m + n) * b) ((m + n) * c))).b.y)).toList (hJ.em.join kge kcl) rfl (eval_tmp x18) (by rw [eval_tmp x119]; rfl) sz23 (by kernel_rfl) (by rw [ksz]; decide) (by kernel_rfl) (fun ww2 hE hk hz => ?_)
   rw [putC_full (show kC.size = (cS (meetS (mulT (expT (ofV (m * a) (m * b) (m * c))) (expT (ofV (n * a) (n * b) (n * c)))).b.y (expT (ofV ((m + n) * a) ((m + n) * b) ((m + n) * c))).b.y)).toList.length from ksz), Array.toArray_toList] at hE
   exact HK.out undef _ (hJ.store (a := 14) (n := 3) (T := 23) (Cn := (cS (meetS (mulT (expT (ofV (m * a) (m * b) (m * c))) (expT (ofV (n * a) (n * b) (n * c)))).b.y (expT (ofV ((m + n) * a) ((m + n) * b) ((m + n) * c))).b.y))) hLi (by simp) (by simp) (by simp) (by simp) (by simp) (by simp) hLa ke kge rfl hE hk hz) trivial (veL_flat rfl)
  ·
   exact .inr ⟨rfl, fun K' hK => wp_asgn (.tmp 120) rfl (eval_tmp ((hin 13 120 rfl).trans (congrArg some (show uu 13 = .bool true from (hd 13 (by decide) (by kernel_rfl)).2)))) (hK _ _ (hJ.grow hLi (by simp) (by simp) (Below.refl _ _)) rfl veL_same)⟩
 clear hM
 intro LL uu W24 hLL hJm hd
 have e_0 : uu 0 = .int .i64 1 := hd 0 (by decide)
 have e_1 : uu 1 = .int .i64 1 := hd 1 (by decide)
 have e_2 : uu 2 = .pointer (some ⟨bk4, 9, none⟩) := hd 2 (by decide)
 have e_3 : uu 3 = .pointer (some ⟨bk4, 12, none⟩) := hd 3 (by decide)
 have e_4 : uu 4 = .agg (cS (mulT (expT (ofV (m * a) (m * b) (m * c))) (expT (ofV (n * a) (n * b) (n * c)))).b.y) := hd 4 (by decide)
 have e_5 : uu 5 = .int .i64 1 := hd 5 (by decide)
 have e_6 : uu 6 = .int .i64 1 := hd 6 (by decide)
 have e_7 : uu 7 = .pointer (some ⟨bk3, 9, none⟩) := hd 7 (by decide)
 have e_8 : uu 8 = .pointer (some ⟨bk3, 12, none⟩) := hd 8 (by decide)
 have e_9 : uu 9 = .agg (cS (expT (ofV ((m + n) * a) ((m + n) * b) ((m + n) * c))).b.y) := hd 9 (by decide)
 have e_10 : uu 10 = .tuple #[.agg (cS (meetS (mulT (expT (ofV (m * a) (m * b) (m * c))) (expT (ofV (n * a) (n * b) (n * c)))).b.y (expT (ofV ((m + n) * a) ((m + n) * b) ((m + n) * c))).b.y)), .bool true] := hd 10 (by decide)
 have e_11 : uu 11 = .tuple #[.agg (cS (meetS (mulT (expT (ofV (m * a) (m * b) (m * c))) (expT (ofV (n * a) (n * b) (n * c)))).b.y (expT (ofV ((m + n) * a) ((m + n) * b) ((m + n) * c))).b.y)), .bool true] := hd 11 (by decide)
 have e_12 : uu 12 = .agg (cS (meetS (mulT (expT (ofV (m * a) (m * b) (m * c))) (expT (ofV (n * a) (n * b) (n * c)))).b.y (expT (ofV ((m + n) * a) ((m + n) * b) ((m + n) * c))).b.y)) := hd 12 (by decide)
 have e_13 : uu 13 = .bool true := hd 13 (by decide)
 obtain ⟨bk9, kC14, e_14, nge14, ksz14, nB14⟩ := hJm.bx (14, 3, 23) (by simp) (hLL 14 (by decide))
 have e_16 : uu 16 = .bool true := hd 16 (by decide)
 obtain ⟨_, kb15, ke15, kl15⟩ := hJm.st (15, 14, (cS (meetS (mulT (expT (ofV (m * a) (m * b) (m * c))) (expT (ofV (n * a) (n * b) (n * c)))).b.y (expT (ofV ((m + n) * a) ((m + n) * b) ((m + n) * c))).b.y)), 23) (by simp) (hLL 15 (by decide))
 have kq15 : kb15 = bk9 := by
  have hq := ke15.symm.trans e_14
  injection hq with hq
  injection hq with hq
  injection hq with hq
 subst kq15
 clear ke15
 have g14 := hJm.em.join nge14 kl15
 clear hd hLL
 simp only [layS, Act.put, List.setIfInBounds_toArray, List.set_cons_succ, List.set_cons_zero, Nat.zero_add, Nat.reduceAdd, List.drop_succ_cons, List.drop_zero, List.drop_nil, e_0, e_1, e_2, e_3, e_4, e_5, e_6, e_7, e_8, e_9, e_10, e_11, e_12, e_13, e_14, e_16]
 have hJ24 := g14
 clear hJm e_0 e_1 e_2 e_3 e_4 e_5 e_6 e_7 e_8 e_9 e_10 e_11 e_12 e_13 e_14 e_16 nge14 nB14 ksz14 g14
 have hJ24d := hJ24.sub (List.sublist_cons_self _ _)
 clear hJ24
 go_wp2
 rw [rounds_succ]
 go_wp2
 obtain ⟨m17_24, hm⟩ : ∃ m, m = W24.heap.size := ⟨_, rfl⟩
 have hM : ∀ uu, Jz w m17_24 [(bk4, (cT (mulT (expT (ofV (m * a) (m * b) (m * c))) (expT (ofV (n * a) (n * b) (n * c))))), 50), (bk3, (cT (expT (ofV ((m + n) * a) ((m + n) * b) ((m + n) * c)))), 50), (bk2, (cT (expT (ofV (n * a) (n * b) (n * c)))), 50), (bk1, (cT (expT (ofV (m * a) (m * b) (m * c)))), 50)] [(14, 3, 23)] [(15, 14, (cS (meetS (mulT (expT (ofV (m * a) (m * b) (m * c))) (expT (ofV (n * a) (n * b) (n * c)))).b.z (expT (ofV ((m + n) * a) ((m + n) * b) ((m + n) * c))).b.z)), 23)] (fun _ => false) uu W24.drew := fun uu => by rw [hm]; exact Jz.start hJ24d uu
 clear hm hJ24d
 refine wp_region_y 17 [some 108, some 109, some 110, some 111, some 112, some 113, some 114, some 115, some 116, some 117, some 118, some 107, some 119, some 120, some 18, none, some 19] (veL m17_24 [.eq (.int .i64 1), .eq (.int .i64 2), .eq (.pointer (some ⟨bk4, 9, none⟩)), .eq (.pointer (some ⟨bk4, 15, none⟩)), .eq (.agg (cS (mulT (expT (ofV (m * a) (m * b) (m * c))) (expT (ofV (n * a) (n * b) (n * c)))).b.z)), .eq (.int .i64 1), .eq (.int .i64 2), .eq (.pointer (some ⟨bk3, 9, none⟩)), .eq (.pointer (some ⟨bk3, 15, none⟩)), .eq (.agg (cS (expT (ofV ((m + n) * a) ((m + n) * b) ((m + n) * c))).b.z)), .eq (.tuple #[.agg (cS (meetS (mulT (expT (ofV (m * a) (m * b) (m * c))) (expT (ofV (n * a) (n * b) (n * c)))).b.z (expT (ofV ((m + n) * a) ((m + n) * b) ((m + n) * c))).b.z)), .bool true]), .eq (.tuple #[.agg (cS (meetS (mulT (expT (ofV (m * a) (m * b) (m * c))) (expT (ofV (n * a) (n * b) (n * c)))).b.z (expT (ofV ((m + n) * a) ((m + n) * b) ((m + n) * c))).b.z)), .bool true]), .eq (.agg (cS (meetS (mulT (expT (ofV (m * a) (m * b) (m * c))) (expT (ofV (n * a) (n * b) (n * c)))).b.z (expT (ofV ((m + n) * a) ((m + n) * b) ((m + n) * c))).b.z))), .eq (.bool true), .any, .any, .eq (.bool true)]) (Jz w m17_24 [(bk4, (cT (mulT (expT (ofV (m * a) (m * b) (m * c))) (expT (ofV (n * a) (n * b) (n * c))))), 50), (bk3, (cT (expT (ofV ((m + n) * a) ((m + n) * b) ((m + n) * c)))), 50), (bk2, (cT (expT (ofV (n * a) (n * b) (n * c)))), 50), (bk1, (cT (expT (ofV (m * a) (m * b) (m * c)))), 50)] [(14, 3, 23)] [(15, 14, (cS (meetS (mulT (expT (ofV (m * a) (m * b) (m * c))) (expT (ofV (n * a) (n * b) (n * c)))).b.z (expT (ofV ((m + n) * a) ((m + n) * b) ((m + n) * c))).b.z)), 23)]) (by kernel_rfl) (by kernel_rfl) (by rfl) (by decide) (by rfl) hM ?_ ?_
 ·
  intro i hl hi LL uu ww aa hLi hJ hd hev hin
  clear hM
  obtain rfl | rfl | rfl | rfl | rfl | rfl | rfl | rfl | rfl | rfl | rfl | rfl | rfl | rfl | rfl | rfl | rfl : i = 0 ∨ i = 1 ∨ i = 2 ∨ i = 3 ∨ i = 4 ∨ i = 5 ∨ i = 6 ∨ i = 7 ∨ i = 8 ∨ i = 9 ∨ i = 10 ∨ i = 11 ∨ i = 12 ∨ i = 13 ∨ i = 14 ∨ i = 15 ∨ i = 16 := by omega
  ·
   exact .inr ⟨rfl, fun K' hK => wp_move (.tmp 16) rfl (eval_tmp ((hev 16 (by decide)).trans rfl)) (hK _ _ (hJ.grow hLi (by simp) (by simp) (Below.refl _ _)) rfl veL_same)⟩
  ·
   exact .inr ⟨rfl, fun K' hK => wp_move (.tmp 17) rfl (eval_tmp ((hev 17 (by decide)).trans rfl)) (hK _ _ (hJ.grow hLi (by simp) (by simp) (Below.refl _ _)) rfl veL_same)⟩
  ·
   exact .inr ⟨rfl, fun K' hK => wp_ixa 50 (.tmp 15) (.tmp 108) rfl (eval_tmp ((hev 15 (by decide)).trans rfl)) (eval_tmp ((hin 0 108 rfl).trans (congrArg some (show uu 0 = .int .i64 1 from (hd 0 (by decide) (by kernel_rfl)).2)))) (fun _ => by kernel_rfl) (hK _ _ (hJ.grow hLi (by simp) (by simp) (Below.refl _ _)) rfl veL_same)⟩
  ·
   exact .inr ⟨rfl, fun K' hK => wp_ixa 25 (.tmp 110) (.tmp 109) rfl (eval_tmp ((hin 2 110 rfl).trans (congrArg some (show uu 2 = .pointer (some ⟨bk4, 9, none⟩) from (hd 2 (by decide) (by kernel_rfl)).2)))) (eval_tmp ((hin 1 109 rfl).trans (congrArg some (show uu 1 = .int .i64 2 from (hd 1 (by decide) (by kernel_rfl)).2)))) (fun _ => by kernel_rfl) (hK _ _ (hJ.grow hLi (by simp) (by simp) (Below.refl _ _)) rfl veL_same)⟩
  ·
   exact .inr ⟨rfl, fun K' hK => wp_load 23 (.tmp 111) rfl bk4 15 3 (cT (mulT (expT (ofV (m * a) (m * b) (m * c))) (expT (ofV (n * a) (n * b) (n * c))))) (cS (mulT (expT (ofV (m * a) (m * b) (m * c))) (expT (ofV (n * a) (n * b) (n * c)))).b.z) 50 (hJ.em.es.at' _ (List.mem_of_getElem? (i := 0) rfl)) (eval_tmp ((hin 3 111 rfl).trans (congrArg some (show uu 3 = .pointer (some ⟨bk4, 15, none⟩) from (hd 3 (by decide) (by kernel_rfl)).2)))) ag23 sz23 (Nat.le_of_ble_eq_true (by kernel_rfl)) (by kernel_rfl) (hK _ _ (hJ.grow hLi (by simp) (by simp) (Below.refl _ _)) rfl veL_same)⟩
  ·
   exact .inr ⟨rfl, fun K' hK => wp_move (.tmp 16) rfl (eval_tmp ((hev 16 (by decide)).trans rfl)) (hK _ _ (hJ.grow hLi (by simp) (by simp) (Below.refl _ _)) rfl veL_same)⟩
  ·
   exact .inr ⟨rfl, fun K' hK => wp_move (.tmp 17) rfl (eval_tmp ((hev 17 (by decide)).trans rfl)) (hK _ _ (hJ.grow hLi (by simp) (by simp) (Below.refl _ _)) rfl veL_same)⟩
  ·
   exact .inr ⟨rfl, fun K' hK => wp_ixa 50 (.tmp 14) (.tmp 113) rfl (eval_tmp ((hev 14 (by decide)).trans rfl)) (eval_tmp ((hin 5 113 rfl).trans (congrArg some (show uu 5 = .int .i64 1 from (hd 5 (by decide) (by kernel_rfl)).2)))) (fun _ => by kernel_rfl) (hK _ _ (hJ.grow hLi (by simp) (by simp) (Below.refl _ _)) rfl veL_same)⟩
  ·
   exact .inr ⟨rfl, fun K' hK => wp_ixa 25 (.tmp 115) (.tmp 114) rfl (eval_tmp ((hin 7 115 rfl).trans (congrArg some (show uu 7 = .pointer (some ⟨bk3, 9, none⟩) from (hd 7 (by decide) (by kernel_rfl)).2)))) (eval_tmp ((hin 6 114 rfl).trans (congrArg some (show uu 6 = .int .i64 2 from (hd 6 (by decide) (by kernel_rfl)).2)))) (fun _ => by kernel_rfl) (hK _ _ (hJ.grow hLi (by simp) (by simp) (Below.refl _ _)) rfl veL_same)⟩
  ·
   exact .inr ⟨rfl, fun K' hK => wp_load 23 (.tmp 116) rfl bk3 15 3 (cT (expT (ofV ((m + n) * a) ((m + n) * b) ((m + n) * c)))) (cS (expT (ofV ((m + n) * a) ((m + n) * b) ((m + n) * c))).b.z) 50 (hJ.em.es.at' _ (List.mem_of_getElem? (i := 1) rfl)) (eval_tmp ((hin 8 116 rfl).trans (congrArg some (show uu 8 = .pointer (some ⟨bk3, 15, none⟩) from (hd 8 (by decide) (by kernel_rfl)).2)))) ag23 sz23 (Nat.le_of_ble_eq_true (by kernel_rfl)) (by kernel_rfl) (hK _ _ (hJ.grow hLi (by simp) (by simp) (Below.refl _ _)) rfl veL_same)⟩
  ·
   exact .inr ⟨rfl, fun K' hK => wp_callv (.func 41) #[.tmp 112, .tmp 117] _ 41 #[] #[.agg (cS (mulT (expT (ofV (m * a) (m * b) (m * c))) (expT (ofV (n * a) (n * b) (n * c)))).b.z), .agg (cS (expT (ofV ((m + n) * a) ((m + n) * b) ((m + n) * c))).b.z)] #[.agg (cS (mulT (expT (ofV (m * a) (m * b) (m * c))) (expT (ofV (n * a) (n * b) (n * c)))).b.z), .agg (cS (expT (ofV ((m + n) * a) ((m + n) * b) ((m + n) * c))).b.z)] rfl rfl (map2 (eval_tmp ((hin 4 112 rfl).trans (congrArg some (show uu 4 = .agg (cS (mulT (expT (ofV (m * a) (m * b) (m * c))) (expT (ofV (n * a) (n * b) (n * c)))).b.z) from (hd 4 (by decide) (by kernel_rfl)).2)))) (eval_tmp ((hin 9 117 rfl).trans (congrArg some (show uu 9 = .agg (cS (expT (ofV ((m + n) * a) ((m + n) * b) ((m + n) * c))).b.z) from (hd 9 (by decide) (by kernel_rfl)).2))))) (by kernel_rfl) (fun _ _ => by kernel_rfl) (meet_yes HM.out.2.1.2.2 ww) (fun _ hB => (hK _ _ (hJ.grow hLi (by simp) (by simp) hB) rfl (veL_flat rfl)))⟩
  ·
   exact .inr ⟨rfl, fun K' hK => wp_move (.tmp 118) rfl (eval_tmp ((hin 10 118 rfl).trans (congrArg some (show uu 10 = .tuple #[.agg (cS (meetS (mulT (expT (ofV (m * a) (m * b) (m * c))) (expT (ofV (n * a) (n * b) (n * c)))).b.z (expT (ofV ((m + n) * a) ((m + n) * b) ((m + n) * c))).b.z)), .bool true] from (hd 10 (by decide) (by kernel_rfl)).2)))) (hK _ _ (hJ.grow hLi (by simp) (by simp) (Below.refl _ _)) rfl veL_same)⟩
  ·
   exact .inr ⟨rfl, fun K' hK => wp_ext (.tmp 107) 0 rfl (eval_tmp ((hin 11 107 rfl).trans (congrArg some (show uu 11 = .tuple #[.agg (cS (meetS (mulT (expT (ofV (m * a) (m * b) (m * c))) (expT (ofV (n * a) (n * b) (n * c)))).b.z (expT (ofV ((m + n) * a) ((m + n) * b) ((m + n) * c))).b.z)), .bool true] from (hd 11 (by decide) (by kernel_rfl)).2)))) (fun _ => rfl) (hK _ _ (hJ.grow hLi (by simp) (by simp) (Below.refl _ _)) rfl veL_same)⟩
  ·
   exact .inr ⟨rfl, fun K' hK => wp_ext (.tmp 107) 1 rfl (eval_tmp ((hin 11 107 rfl).trans (congrArg some (show uu 11 = .tuple #[.agg (cS (meetS (mulT (expT (ofV (m * a) (m * b) (m * c))) (expT (ofV (n * a) (n * b) (n * c)))).b.z (expT (ofV ((m + n) * a) ((m + n) * b) ((m + n) * c))).b.z)), .bool true] from (hd 11 (by decide) (by kernel_rfl)).2)))) (fun _ => rfl) (hK _ _ (hJ.grow hLi (by simp) (by simp) (Below.refl _ _)) rfl veL_same)⟩
  ·
   exact .inr ⟨rfl, fun K' hK => wp_alloc 23 rfl (.agg (cS zS)) zv23 (hK _ _ (hJ.alloc hLi (n := 3) rfl (by simp) (by simp)) trivial (veL_flat rfl))⟩
  ·
   have hLa := (hd 14 (by decide) (by kernel_rfl)).1
   obtain ⟨kb, kC, ke, kge, ksz, kcl⟩ := hJ.bx (14, 3, 23) (by simp) hLa
   have x18 : aa.tmps[18]? = some (.pointer (some ⟨kb, 0, none⟩)) := (hin 14 18 rfl).trans (congrArg some ke)
   have x119 : aa.tmps[119]? = some (.agg (cS (meetS (mulT (expT (ofV (m * a) (m * b) (m * c))) (expT (ofV (n * a) (n * b) (n * c)))).b.z (expT (ofV ((m + n) * a) ((m + n) * b) ((m + n) * c))).b.z))) := ((hin 12 119 rfl).trans (congrArg some (show uu 12 = .agg (cS (meetS (mulT (expT (ofV (m * a) (m * b) (m * c))) (expT (ofV (n * a) (n * b) (n * c)))).b.z (expT (ofV ((m + n) * a) ((m + n) * b) ((m + n) * c))).b.z)) from (hd 12 (by decide) (by kernel_rfl)).2)))
   clear hd hev hin
   simp only [List.getElem_cons_succ, List.getElem_cons_zero]
   clear hl
   refine .inr ⟨rfl, fun K' hK => ?_⟩
   have HK := Lib.hid hK
   clear hK
   refine wp_store 23 (.tmp 18) (.tmp 119) rfl 0 kb 0 kC 23 3 (cS (meetS (mulT (expT (ofV (m * a) (m * b) (m * c))) (expT (ofV (n * a) (n * b) (n * c)))).b.z (expT (ofV ((m + n) * a) ((m + n) * b) ((m + n) * c))).b.z)).toList (hJ.em.join kge kcl) rfl (eval_tmp x18) (by rw [eval_tmp x119]; rfl) sz23 (by kernel_rfl) (by rw [ksz]; decide) (by kernel_rfl) (fun ww2 hE hk hz => ?_)
   rw [putC_full (show kC.size = (cS (meetS (mulT (expT (ofV (m * a) (m * b) (m * c))) (expT (ofV (n * a) (n * b) (n * c)))).b.z (expT (ofV ((m + n) * a) ((m + n) * b) ((m + n) * c))).b.z)).toList.length from ksz), Array.toArray_toList] at hE
   exact HK.out undef _ (hJ.store (a := 14) (n := 3) (T := 23) (Cn := (cS (meetS (mulT (expT (ofV (m * a) (m * b) (m * c))) (expT (ofV (n * a) (n * b) (n * c)))).b.z (expT (ofV ((m + n) * a) ((m + n) * b) ((m + n) * c))).b.z))) hLi (by simp) (by simp) (by simp) (by simp) (by simp) (by simp) hLa ke kge rfl hE hk hz) trivial (veL_flat rfl)
  ·
   exact .inr ⟨rfl, fun K' hK => wp_asgn (.tmp 120) rfl (eval_tmp ((hin 13 120 rfl).trans (congrArg some (show uu 13 = .bool true from (hd 13 (by decide) (by kernel_rfl)).2)))) (hK _ _ (hJ.grow hLi (by simp) (by simp) (Below.refl _ _)) rfl veL_same)⟩
 clear hM
 intro LL uu W25 hLL hJm hd
 have e_0 : uu 0 = .int .i64 1 := hd 0 (by decide)
 have e_1 : uu 1 = .int .i64 2 := hd 1 (by decide)
 have e_2 : uu 2 = .pointer (some ⟨bk4, 9, none⟩) := hd 2 (by decide)
 have e_3 : uu 3 = .pointer (some ⟨bk4, 15, none⟩) := hd 3 (by decide)
 have e_4 : uu 4 = .agg (cS (mulT (expT (ofV (m * a) (m * b) (m * c))) (expT (ofV (n * a) (n * b) (n * c)))).b.z) := hd 4 (by decide)
 have e_5 : uu 5 = .int .i64 1 := hd 5 (by decide)
 have e_6 : uu 6 = .int .i64 2 := hd 6 (by decide)
 have e_7 : uu 7 = .pointer (some ⟨bk3, 9, none⟩) := hd 7 (by decide)
 have e_8 : uu 8 = .pointer (some ⟨bk3, 15, none⟩) := hd 8 (by decide)
 have e_9 : uu 9 = .agg (cS (expT (ofV ((m + n) * a) ((m + n) * b) ((m + n) * c))).b.z) := hd 9 (by decide)
 have e_10 : uu 10 = .tuple #[.agg (cS (meetS (mulT (expT (ofV (m * a) (m * b) (m * c))) (expT (ofV (n * a) (n * b) (n * c)))).b.z (expT (ofV ((m + n) * a) ((m + n) * b) ((m + n) * c))).b.z)), .bool true] := hd 10 (by decide)
 have e_11 : uu 11 = .tuple #[.agg (cS (meetS (mulT (expT (ofV (m * a) (m * b) (m * c))) (expT (ofV (n * a) (n * b) (n * c)))).b.z (expT (ofV ((m + n) * a) ((m + n) * b) ((m + n) * c))).b.z)), .bool true] := hd 11 (by decide)
 have e_12 : uu 12 = .agg (cS (meetS (mulT (expT (ofV (m * a) (m * b) (m * c))) (expT (ofV (n * a) (n * b) (n * c)))).b.z (expT (ofV ((m + n) * a) ((m + n) * b) ((m + n) * c))).b.z)) := hd 12 (by decide)
 have e_13 : uu 13 = .bool true := hd 13 (by decide)
 obtain ⟨bk10, kC14, e_14, nge14, ksz14, nB14⟩ := hJm.bx (14, 3, 23) (by simp) (hLL 14 (by decide))
 have e_16 : uu 16 = .bool true := hd 16 (by decide)
 obtain ⟨_, kb15, ke15, kl15⟩ := hJm.st (15, 14, (cS (meetS (mulT (expT (ofV (m * a) (m * b) (m * c))) (expT (ofV (n * a) (n * b) (n * c)))).b.z (expT (ofV ((m + n) * a) ((m + n) * b) ((m + n) * c))).b.z)), 23) (by simp) (hLL 15 (by decide))
 have kq15 : kb15 = bk10 := by
  have hq := ke15.symm.trans e_14
  injection hq with hq
  injection hq with hq
  injection hq with hq
 subst kq15
 clear ke15
 have g14 := hJm.em.join nge14 kl15
 clear hd hLL
 simp only [layS, Act.put, List.setIfInBounds_toArray, List.set_cons_succ, List.set_cons_zero, Nat.zero_add, Nat.reduceAdd, List.drop_succ_cons, List.drop_zero, List.drop_nil, e_0, e_1, e_2, e_3, e_4, e_5, e_6, e_7, e_8, e_9, e_10, e_11, e_12, e_13, e_14, e_16]
 have hJ25 := g14
 clear hJm e_0 e_1 e_2 e_3 e_4 e_5 e_6 e_7 e_8 e_9 e_10 e_11 e_12 e_13 e_14 e_16 nge14 nB14 ksz14 g14
 have hJ25d := hJ25.sub (List.sublist_cons_self _ _)
 clear hJ25
 go_wp2
 rw [rounds_succ]
 go_wp2
 rw [rounds_succ]
 go_wp2
 refine wp_loop_rounds 4 ?_
 rw [rounds_succ]
 go_wp2
 obtain ⟨m17_25, hm⟩ : ∃ m, m = W25.heap.size := ⟨_, rfl⟩
 have hM : ∀ uu, Jz w m17_25 [(bk4, (cT (mulT (expT (ofV (m * a) (m * b) (m * c))) (expT (ofV (n * a) (n * b) (n * c))))), 50), (bk3, (cT (expT (ofV ((m + n) * a) ((m + n) * b) ((m + n) * c)))), 50), (bk2, (cT (expT (ofV (n * a) (n * b) (n * c)))), 50), (bk1, (cT (expT (ofV (m * a) (m * b) (m * c)))), 50)] [(14, 3, 23)] [(15, 14, (cS (meetS (mulT (expT (ofV (m * a) (m * b) (m * c))) (expT (ofV (n * a) (n * b) (n * c)))).c.x (expT (ofV ((m + n) * a) ((m + n) * b) ((m + n) * c))).c.x)), 23)] (fun _ => false) uu W25.drew := fun uu => by rw [hm]; exact Jz.start hJ25d uu
 clear hm hJ25d
 refine wp_region_y 17 [some 108, some 109, some 110, some 111, some 112, some 113, some 114, some 115, some 116, some 117, some 118, some 107, some 119, some 120, some 18, none, some 19] (veL m17_25 [.eq (.int .i64 2), .eq (.int .i64 0), .eq (.pointer (some ⟨bk4, 18, none⟩)), .eq (.pointer (some ⟨bk4, 18, none⟩)), .eq (.agg (cS (mulT (expT (ofV (m * a) (m * b) (m * c))) (expT (ofV (n * a) (n * b) (n * c)))).c.x)), .eq (.int .i64 2), .eq (.int .i64 0), .eq (.pointer (some ⟨bk3, 18, none⟩)), .eq (.pointer (some ⟨bk3, 18, none⟩)), .eq (.agg (cS (expT (ofV ((m + n) * a) ((m + n) * b) ((m + n) * c))).c.x)), .eq (.tuple #[.agg (cS (meetS (mulT (expT (ofV (m * a) (m * b) (m * c))) (expT (ofV (n * a) (n * b) (n * c)))).c.x (expT (ofV ((m + n) * a) ((m + n) * b) ((m + n) * c))).c.x)), .bool true]), .eq (.tuple #[.agg (cS (meetS (mulT (expT (ofV (m * a) (m * b) (m * c))) (expT (ofV (n * a) (n * b) (n * c)))).c.x (expT (ofV ((m + n) * a) ((m + n) * b) ((m + n) * c))).c.x)), .bool true]), .eq (.agg (cS (meetS (mulT (expT (ofV (m * a) (m * b) (m * c))) (expT (ofV (n * a) (n * b) (n * c)))).c.x (expT (ofV ((m + n) * a) ((m + n) * b) ((m + n) * c))).c.x))), .eq (.bool true), .any, .any, .eq (.bool true)]) (Jz w m17_25 [(bk4, (cT (mulT (expT (ofV (m * a) (m * b) (m * c))) (expT (ofV (n * a) (n * b) (n * c))))), 50), (bk3, (cT (expT (ofV ((m + n) * a) ((m + n) * b) ((m + n) * c)))), 50), (bk2, (cT (expT (ofV (n * a) (n * b) (n * c)))), 50), (bk1, (cT (expT (ofV (m * a) (m * b) (m * c)))), 50)] [(14, 3, 23)] [(15, 14, (cS (meetS (mulT (expT (ofV (m * a) (m * b) (m * c))) (expT (ofV (n * a) (n * b) (n * c)))).c.x (expT (ofV ((m + n) * a) ((m + n) * b) ((m + n) * c))).c.x)), 23)]) (by kernel_rfl) (by kernel_rfl) (by rfl) (by decide) (by rfl) hM ?_ ?_
 ·
  intro i hl hi LL uu ww aa hLi hJ hd hev hin
  clear hM
  obtain rfl | rfl | rfl | rfl | rfl | rfl | rfl | rfl | rfl | rfl | rfl | rfl | rfl | rfl | rfl | rfl | rfl : i = 0 ∨ i = 1 ∨ i = 2 ∨ i = 3 ∨ i = 4 ∨ i = 5 ∨ i = 6 ∨ i = 7 ∨ i = 8 ∨ i = 9 ∨ i = 10 ∨ i = 11 ∨ i = 12 ∨ i = 13 ∨ i = 14 ∨ i = 15 ∨ i = 16 := by omega
  ·
   exact .inr ⟨rfl, fun K' hK => wp_move (.tmp 16) rfl (eval_tmp ((hev 16 (by decide)).trans rfl)) (hK _ _ (hJ.grow hLi (by simp) (by simp) (Below.refl _ _)) rfl veL_same)⟩
  ·
   exact .inr ⟨rfl, fun K' hK => wp_move (.tmp 17) rfl (eval_tmp ((hev 17 (by decide)).trans rfl)) (hK _ _ (hJ.grow hLi (by simp) (by simp) (Below.refl _ _)) rfl veL_same)⟩
  ·
   exact .inr ⟨rfl, fun K' hK => wp_ixa 50 (.tmp 15) (.tmp 108) rfl (eval_tmp ((hev 15 (by decide)).trans rfl)) (eval_tmp ((hin 0 108 rfl).trans (congrArg some (show uu 0 = .int .i64 2 from (hd 0 (by decide) (by kernel_rfl)).2)))) (fun _ => by kernel_rfl) (hK _ _ (hJ.grow hLi (by simp) (by simp) (Below.refl _ _)) rfl veL_same)⟩
  ·
   exact .inr ⟨rfl, fun K' hK => wp_ixa 25 (.tmp 110) (.tmp 109) rfl (eval_tmp ((hin 2 110 rfl).trans (congrArg some (show uu 2 = .pointer (some ⟨bk4, 18, none⟩) from (hd 2 (by decide) (by kernel_rfl)).2)))) (eval_tmp ((hin 1 109 rfl).trans (congrArg some (show uu 1 = .int .i64 0 from (hd 1 (by decide) (by kernel_rfl)).2)))) (fun _ => by kernel_rfl) (hK _ _ (hJ.grow hLi (by simp) (by simp) (Below.refl _ _)) rfl veL_same)⟩
  ·
   exact .inr ⟨rfl, fun K' hK => wp_load 23 (.tmp 111) rfl bk4 18 3 (cT (mulT (expT (ofV (m * a) (m * b) (m * c))) (expT (ofV (n * a) (n * b) (n * c))))) (cS (mulT (expT (ofV (m * a) (m * b) (m * c))) (expT (ofV (n * a) (n * b) (n * c)))).c.x) 50 (hJ.em.es.at' _ (List.mem_of_getElem? (i := 0) rfl)) (eval_tmp ((hin 3 111 rfl).trans (congrArg some (show uu 3 = .pointer (some ⟨bk4, 18, none⟩) from (hd 3 (by decide) (by kernel_rfl)).2)))) ag23 sz23 (Nat.le_of_ble_eq_true (by kernel_rfl)) (by kernel_rfl) (hK _ _ (hJ.grow hLi (by simp) (by simp) (Below.refl _ _)) rfl veL_same)⟩
  ·
   exact .inr ⟨rfl, fun K' hK => wp_move (.tmp 16) rfl (eval_tmp ((hev 16 (by decide)).trans rfl)) (hK _ _ (hJ.grow hLi (by simp) (by simp) (Below.refl _ _)) rfl veL_same)⟩
  ·
   exact .inr ⟨rfl, fun K' hK => wp_move (.tmp 17) rfl (eval_tmp ((hev 17 (by decide)).trans rfl)) (hK _ _ (hJ.grow hLi (by simp) (by simp) (Below.refl _ _)) rfl veL_same)⟩
  ·
   exact .inr ⟨rfl, fun K' hK => wp_ixa 50 (.tmp 14) (.tmp 113) rfl (eval_tmp ((hev 14 (by decide)).trans rfl)) (eval_tmp ((hin 5 113 rfl).trans (congrArg some (show uu 5 = .int .i64 2 from (hd 5 (by decide) (by kernel_rfl)).2)))) (fun _ => by kernel_rfl) (hK _ _ (hJ.grow hLi (by simp) (by simp) (Below.refl _ _)) rfl veL_same)⟩
  ·
   exact .inr ⟨rfl, fun K' hK => wp_ixa 25 (.tmp 115) (.tmp 114) rfl (eval_tmp ((hin 7 115 rfl).trans (congrArg some (show uu 7 = .pointer (some ⟨bk3, 18, none⟩) from (hd 7 (by decide) (by kernel_rfl)).2)))) (eval_tmp ((hin 6 114 rfl).trans (congrArg some (show uu 6 = .int .i64 0 from (hd 6 (by decide) (by kernel_rfl)).2)))) (fun _ => by kernel_rfl) (hK _ _ (hJ.grow hLi (by simp) (by simp) (Below.refl _ _)) rfl veL_same)⟩
  ·
   exact .inr ⟨rfl, fun K' hK => wp_load 23 (.tmp 116) rfl bk3 18 3 (cT (expT (ofV ((m + n) * a) ((m + n) * b) ((m + n) * c)))) (cS (expT (ofV ((m + n) * a) ((m + n) * b) ((m + n) * c))).c.x) 50 (hJ.em.es.at' _ (List.mem_of_getElem? (i := 1) rfl)) (eval_tmp ((hin 8 116 rfl).trans (congrArg some (show uu 8 = .pointer (some ⟨bk3, 18, none⟩) from (hd 8 (by decide) (by kernel_rfl)).2)))) ag23 sz23 (Nat.le_of_ble_eq_true (by kernel_rfl)) (by kernel_rfl) (hK _ _ (hJ.grow hLi (by simp) (by simp) (Below.refl _ _)) rfl veL_same)⟩
  ·
   exact .inr ⟨rfl, fun K' hK => wp_callv (.func 41) #[.tmp 112, .tmp 117] _ 41 #[] #[.agg (cS (mulT (expT (ofV (m * a) (m * b) (m * c))) (expT (ofV (n * a) (n * b) (n * c)))).c.x), .agg (cS (expT (ofV ((m + n) * a) ((m + n) * b) ((m + n) * c))).c.x)] #[.agg (cS (mulT (expT (ofV (m * a) (m * b) (m * c))) (expT (ofV (n * a) (n * b) (n * c)))).c.x), .agg (cS (expT (ofV ((m + n) * a) ((m + n) * b) ((m + n) * c))).c.x)] rfl rfl (map2 (eval_tmp ((hin 4 112 rfl).trans (congrArg some (show uu 4 = .agg (cS (mulT (expT (ofV (m * a) (m * b) (m * c))) (expT (ofV (n * a) (n * b) (n * c)))).c.x) from (hd 4 (by decide) (by kernel_rfl)).2)))) (eval_tmp ((hin 9 117 rfl).trans (congrArg some (show uu 9 = .agg (cS (expT (ofV ((m + n) * a) ((m + n) * b) ((m + n) * c))).c.x) from (hd 9 (by decide) (by kernel_rfl)).2))))) (by kernel_rfl) (fun _ _ => by kernel_rfl) (meet_yes HM.out.2.2.1 ww) (fun _ hB => (hK _ _ (hJ.grow hLi (by simp) (by simp) hB) rfl (veL_flat rfl)))⟩
  ·
   exact .inr ⟨rfl, fun K' hK => wp_move (.tmp 118) rfl (eval_tmp ((hin 10 118 rfl).trans (congrArg some (show uu 10 = .tuple #[.agg (cS (meetS (mulT (expT (ofV (m * a) (m * b) (m * c))) (expT (ofV (n * a) (n * b) (n * c)))).c.x (expT (ofV ((m + n) * a) ((m + n) * b) ((m + n) * c))).c.x)), .bool true] from (hd 10 (by decide) (by kernel_rfl)).2)))) (hK _ _ (hJ.grow hLi (by simp) (by simp) (Below.refl _ _)) rfl veL_same)⟩
  ·
   exact .inr ⟨rfl, fun K' hK => wp_ext (.tmp 107) 0 rfl (eval_tmp ((hin 11 107 rfl).trans (congrArg some (show uu 11 = .tuple #[.agg (cS (meetS (mulT (expT (ofV (m * a) (m * b) (m * c))) (expT (ofV (n * a) (n * b) (n * c)))).c.x (expT (ofV ((m + n) * a) ((m + n) * b) ((m + n) * c))).c.x)), .bool true] from (hd 11 (by decide) (by kernel_rfl)).2)))) (fun _ => rfl) (hK _ _ (hJ.grow hLi (by simp) (by simp) (Below.refl _ _)) rfl veL_same)⟩
  ·
   exact .inr ⟨rfl, fun K' hK => wp_ext (.tmp 107) 1 rfl (eval_tmp ((hin 11 107 rfl).trans (congrArg some (show uu 11 = .tuple #[.agg (cS (meetS (mulT (expT (ofV (m * a) (m * b) (m * c))) (expT (ofV (n * a) (n * b) (n * c)))).c.x (expT (ofV ((m + n) * a) ((m + n) * b) ((m + n) * c))).c.x)), .bool true] from (hd 11 (by decide) (by kernel_rfl)).2)))) (fun _ => rfl) (hK _ _ (hJ.grow hLi (by simp) (by simp) (Below.refl _ _)) rfl veL_same)⟩
  ·
   exact .inr ⟨rfl, fun K' hK => wp_alloc 23 rfl (.agg (cS zS)) zv23 (hK _ _ (hJ.alloc hLi (n := 3) rfl (by simp) (by simp)) trivial (veL_flat rfl))⟩
  ·
   have hLa := (hd 14 (by decide) (by kernel_rfl)).1
   obtain ⟨kb, kC, ke, kge, ksz, kcl⟩ := hJ.bx (14, 3, 23) (by simp) hLa
   have x18 : aa.tmps[18]? = some (.pointer (some ⟨kb, 0, none⟩)) := (hin 14 18 rfl).trans (congrArg some ke)
   have x119 : aa.tmps[119]? = some (.agg (cS (meetS (mulT (expT (ofV (m * a) (m * b) (m * c))) (expT (ofV (n * a) (n * b) (n * c)))).c.x (expT (ofV ((m + n) * a) ((m + n) * b) ((m + n) * c))).c.x))) := ((hin 12 119 rfl).trans (congrArg some (show uu 12 = .agg (cS (meetS (mulT (expT (ofV (m * a) (m * b) (m * c))) (expT (ofV (n * a) (n * b) (n * c)))).c.x (expT (ofV ((m + n) * a) ((m + n) * b) ((m + n) * c))).c.x)) from (hd 12 (by decide) (by kernel_rfl)).2)))
   clear hd hev hin
   simp only [List.getElem_cons_succ, List.getElem_cons_zero]
   clear hl
   refine .inr ⟨rfl, fun K' hK => ?_⟩
   have HK := Lib.hid hK
   clear hK
   refine wp_store 23 (.tmp 18) (.tmp 119) rfl 0 kb 0 kC 23 3 (cS (meetS (mulT (expT (ofV (m * a) (m * b) (m * c))) (expT (ofV (n * a) (n * b) (n * c)))).c.x (expT (ofV ((m + n) * a) ((m + n) * b) ((m + n) * c))).c.x)).toList (hJ.em.join kge kcl) rfl (eval_tmp x18) (by rw [eval_tmp x119]; rfl) sz23 (by kernel_rfl) (by rw [ksz]; decide) (by kernel_rfl) (fun ww2 hE hk hz => ?_)
   rw [putC_full (show kC.size = (cS (meetS (mulT (expT (ofV (m * a) (m * b) (m * c))) (expT (ofV (n * a) (n * b) (n * c)))).c.x (expT (ofV ((m + n) * a) ((m + n) * b) ((m + n) * c))).c.x)).toList.length from ksz), Array.toArray_toList] at hE
   exact HK.out undef _ (hJ.store (a := 14) (n := 3) (T := 23) (Cn := (cS (meetS (mulT (expT (ofV (m * a) (m * b) (m * c))) (expT (ofV (n * a) (n * b) (n * c)))).c.x (expT (ofV ((m + n) * a) ((m + n) * b) ((m + n) * c))).c.x))) hLi (by simp) (by simp) (by simp) (by simp) (by simp) (by simp) hLa ke kge rfl hE hk hz) trivial (veL_flat rfl)
  ·
   exact .inr ⟨rfl, fun K' hK => wp_asgn (.tmp 120) rfl (eval_tmp ((hin 13 120 rfl).trans (congrArg some (show uu 13 = .bool true from (hd 13 (by decide) (by kernel_rfl)).2)))) (hK _ _ (hJ.grow hLi (by simp) (by simp) (Below.refl _ _)) rfl veL_same)⟩
 clear hM
 intro LL uu W26 hLL hJm hd
 have e_0 : uu 0 = .int .i64 2 := hd 0 (by decide)
 have e_1 : uu 1 = .int .i64 0 := hd 1 (by decide)
 have e_2 : uu 2 = .pointer (some ⟨bk4, 18, none⟩) := hd 2 (by decide)
 have e_3 : uu 3 = .pointer (some ⟨bk4, 18, none⟩) := hd 3 (by decide)
 have e_4 : uu 4 = .agg (cS (mulT (expT (ofV (m * a) (m * b) (m * c))) (expT (ofV (n * a) (n * b) (n * c)))).c.x) := hd 4 (by decide)
 have e_5 : uu 5 = .int .i64 2 := hd 5 (by decide)
 have e_6 : uu 6 = .int .i64 0 := hd 6 (by decide)
 have e_7 : uu 7 = .pointer (some ⟨bk3, 18, none⟩) := hd 7 (by decide)
 have e_8 : uu 8 = .pointer (some ⟨bk3, 18, none⟩) := hd 8 (by decide)
 have e_9 : uu 9 = .agg (cS (expT (ofV ((m + n) * a) ((m + n) * b) ((m + n) * c))).c.x) := hd 9 (by decide)
 have e_10 : uu 10 = .tuple #[.agg (cS (meetS (mulT (expT (ofV (m * a) (m * b) (m * c))) (expT (ofV (n * a) (n * b) (n * c)))).c.x (expT (ofV ((m + n) * a) ((m + n) * b) ((m + n) * c))).c.x)), .bool true] := hd 10 (by decide)
 have e_11 : uu 11 = .tuple #[.agg (cS (meetS (mulT (expT (ofV (m * a) (m * b) (m * c))) (expT (ofV (n * a) (n * b) (n * c)))).c.x (expT (ofV ((m + n) * a) ((m + n) * b) ((m + n) * c))).c.x)), .bool true] := hd 11 (by decide)
 have e_12 : uu 12 = .agg (cS (meetS (mulT (expT (ofV (m * a) (m * b) (m * c))) (expT (ofV (n * a) (n * b) (n * c)))).c.x (expT (ofV ((m + n) * a) ((m + n) * b) ((m + n) * c))).c.x)) := hd 12 (by decide)
 have e_13 : uu 13 = .bool true := hd 13 (by decide)
 obtain ⟨bk11, kC14, e_14, nge14, ksz14, nB14⟩ := hJm.bx (14, 3, 23) (by simp) (hLL 14 (by decide))
 have e_16 : uu 16 = .bool true := hd 16 (by decide)
 obtain ⟨_, kb15, ke15, kl15⟩ := hJm.st (15, 14, (cS (meetS (mulT (expT (ofV (m * a) (m * b) (m * c))) (expT (ofV (n * a) (n * b) (n * c)))).c.x (expT (ofV ((m + n) * a) ((m + n) * b) ((m + n) * c))).c.x)), 23) (by simp) (hLL 15 (by decide))
 have kq15 : kb15 = bk11 := by
  have hq := ke15.symm.trans e_14
  injection hq with hq
  injection hq with hq
  injection hq with hq
 subst kq15
 clear ke15
 have g14 := hJm.em.join nge14 kl15
 clear hd hLL
 simp only [layS, Act.put, List.setIfInBounds_toArray, List.set_cons_succ, List.set_cons_zero, Nat.zero_add, Nat.reduceAdd, List.drop_succ_cons, List.drop_zero, List.drop_nil, e_0, e_1, e_2, e_3, e_4, e_5, e_6, e_7, e_8, e_9, e_10, e_11, e_12, e_13, e_14, e_16]
 have hJ26 := g14
 clear hJm e_0 e_1 e_2 e_3 e_4 e_5 e_6 e_7 e_8 e_9 e_10 e_11 e_12 e_13 e_14 e_16 nge14 nB14 ksz14 g14
 have hJ26d := hJ26.sub (List.sublist_cons_self _ _)
 clear hJ26
 go_wp2
 rw [rounds_succ]
 go_wp2
 obtain ⟨m17_26, hm⟩ : ∃ m, m = W26.heap.size := ⟨_, rfl⟩
 have hM : ∀ uu, Jz w m17_26 [(bk4, (cT (mulT (expT (ofV (m * a) (m * b) (m * c))) (expT (ofV (n * a) (n * b) (n * c))))), 50), (bk3, (cT (expT (ofV ((m + n) * a) ((m + n) * b) ((m + n) * c)))), 50), (bk2, (cT (expT (ofV (n * a) (n * b) (n * c)))), 50), (bk1, (cT (expT (ofV (m * a) (m * b) (m * c)))), 50)] [(14, 3, 23)] [(15, 14, (cS (meetS (mulT (expT (ofV (m * a) (m * b) (m * c))) (expT (ofV (n * a) (n * b) (n * c)))).c.y (expT (ofV ((m + n) * a) ((m + n) * b) ((m + n) * c))).c.y)), 23)] (fun _ => false) uu W26.drew := fun uu => by rw [hm]; exact Jz.start hJ26d uu
 clear hm hJ26d
 refine wp_region_y 17 [some 108, some 109, some 110, some 111, some 112, some 113, some 114, some 115, some 116, some 117, some 118, some 107, some 119, some 120, some 18, none, some 19] (veL m17_26 [.eq (.int .i64 2), .eq (.int .i64 1), .eq (.pointer (some ⟨bk4, 18, none⟩)), .eq (.pointer (some ⟨bk4, 21, none⟩)), .eq (.agg (cS (mulT (expT (ofV (m * a) (m * b) (m * c))) (expT (ofV (n * a) (n * b) (n * c)))).c.y)), .eq (.int .i64 2), .eq (.int .i64 1), .eq (.pointer (some ⟨bk3, 18, none⟩)), .eq (.pointer (some ⟨bk3, 21, none⟩)), .eq (.agg (cS (expT (ofV ((m + n) * a) ((m + n) * b) ((m + n) * c))).c.y)), .eq (.tuple #[.agg (cS (meetS (mulT (expT (ofV (m * a) (m * b) (m * c))) (expT (ofV (n * a) (n * b) (n * c)))).c.y (expT (ofV ((m + n) * a) ((m + n) * b) ((m + n) * c))).c.y)), .bool true]), .eq (.tuple #[.agg (cS (meetS (mulT (expT (ofV (m * a) (m * b) (m * c))) (expT (ofV (n * a) (n * b) (n * c)))).c.y (expT (ofV ((m + n) * a) ((m + n) * b) ((m + n) * c))).c.y)), .bool true]), .eq (.agg (cS (meetS (mulT (expT (ofV (m * a) (m * b) (m * c))) (expT (ofV (n * a) (n * b) (n * c)))).c.y (expT (ofV ((m + n) * a) ((m + n) * b) ((m + n) * c))).c.y))), .eq (.bool true), .any, .any, .eq (.bool true)]) (Jz w m17_26 [(bk4, (cT (mulT (expT (ofV (m * a) (m * b) (m * c))) (expT (ofV (n * a) (n * b) (n * c))))), 50), (bk3, (cT (expT (ofV ((m + n) * a) ((m + n) * b) ((m + n) * c)))), 50), (bk2, (cT (expT (ofV (n * a) (n * b) (n * c)))), 50), (bk1, (cT (expT (ofV (m * a) (m * b) (m * c)))), 50)] [(14, 3, 23)] [(15, 14, (cS (meetS (mulT (expT (ofV (m * a) (m * b) (m * c))) (expT (ofV (n * a) (n * b) (n * c)))).c.y (expT (ofV ((m + n) * a) ((m + n) * b) ((m + n) * c))).c.y)), 23)]) (by kernel_rfl) (by kernel_rfl) (by rfl) (by decide) (by rfl) hM ?_ ?_
 ·
  intro i hl hi LL uu ww aa hLi hJ hd hev hin
  clear hM
  obtain rfl | rfl | rfl | rfl | rfl | rfl | rfl | rfl | rfl | rfl | rfl | rfl | rfl | rfl | rfl | rfl | rfl : i = 0 ∨ i = 1 ∨ i = 2 ∨ i = 3 ∨ i = 4 ∨ i = 5 ∨ i = 6 ∨ i = 7 ∨ i = 8 ∨ i = 9 ∨ i = 10 ∨ i = 11 ∨ i = 12 ∨ i = 13 ∨ i = 14 ∨ i = 15 ∨ i = 16 := by omega
  ·
   exact .inr ⟨rfl, fun K' hK => wp_move (.tmp 16) rfl (eval_tmp ((hev 16 (by decide)).trans rfl)) (hK _ _ (hJ.grow hLi (by simp) (by simp) (Below.refl _ _)) rfl veL_same)⟩
  ·
   exact .inr ⟨rfl, fun K' hK => wp_move (.tmp 17) rfl (eval_tmp ((hev 17 (by decide)).trans rfl)) (hK _ _ (hJ.grow hLi (by simp) (by simp) (Below.refl _ _)) rfl veL_same)⟩
  ·
   exact .inr ⟨rfl, fun K' hK => wp_ixa 50 (.tmp 15) (.tmp 108) rfl (eval_tmp ((hev 15 (by decide)).trans rfl)) (eval_tmp ((hin 0 108 rfl).trans (congrArg some (show uu 0 = .int .i64 2 from (hd 0 (by decide) (by kernel_rfl)).2)))) (fun _ => by kernel_rfl) (hK _ _ (hJ.grow hLi (by simp) (by simp) (Below.refl _ _)) rfl veL_same)⟩
  ·
   exact .inr ⟨rfl, fun K' hK => wp_ixa 25 (.tmp 110) (.tmp 109) rfl (eval_tmp ((hin 2 110 rfl).trans (congrArg some (show uu 2 = .pointer (some ⟨bk4, 18, none⟩) from (hd 2 (by decide) (by kernel_rfl)).2)))) (eval_tmp ((hin 1 109 rfl).trans (congrArg some (show uu 1 = .int .i64 1 from (hd 1 (by decide) (by kernel_rfl)).2)))) (fun _ => by kernel_rfl) (hK _ _ (hJ.grow hLi (by simp) (by simp) (Below.refl _ _)) rfl veL_same)⟩
  ·
   exact .inr ⟨rfl, fun K' hK => wp_load 23 (.tmp 111) rfl bk4 21 3 (cT (mulT (expT (ofV (m * a) (m * b) (m * c))) (expT (ofV (n * a) (n * b) (n * c))))) (cS (mulT (expT (ofV (m * a) (m * b) (m * c))) (expT (ofV (n * a) (n * b) (n * c)))).c.y) 50 (hJ.em.es.at' _ (List.mem_of_getElem? (i := 0) rfl)) (eval_tmp ((hin 3 111 rfl).trans (congrArg some (show uu 3 = .pointer (some ⟨bk4, 21, none⟩) from (hd 3 (by decide) (by kernel_rfl)).2)))) ag23 sz23 (Nat.le_of_ble_eq_true (by kernel_rfl)) (by kernel_rfl) (hK _ _ (hJ.grow hLi (by simp) (by simp) (Below.refl _ _)) rfl veL_same)⟩
  ·
   exact .inr ⟨rfl, fun K' hK => wp_move (.tmp 16) rfl (eval_tmp ((hev 16 (by decide)).trans rfl)) (hK _ _ (hJ.grow hLi (by simp) (by simp) (Below.refl _ _)) rfl veL_same)⟩
  ·
   exact .inr ⟨rfl, fun K' hK => wp_move (.tmp 17) rfl (eval_tmp ((hev 17 (by decide)).trans rfl)) (hK _ _ (hJ.grow hLi (by simp) (by simp) (Below.refl _ _)) rfl veL_same)⟩
  ·
   exact .inr ⟨rfl, fun K' hK => wp_ixa 50 (.tmp 14) (.tmp 113) rfl (eval_tmp ((hev 14 (by decide)).trans rfl)) (eval_tmp ((hin 5 113 rfl).trans (congrArg some (show uu 5 = .int .i64 2 from (hd 5 (by decide) (by kernel_rfl)).2)))) (fun _ => by kernel_rfl) (hK _ _ (hJ.grow hLi (by simp) (by simp) (Below.refl _ _)) rfl veL_same)⟩
  ·
   exact .inr ⟨rfl, fun K' hK => wp_ixa 25 (.tmp 115) (.tmp 114) rfl (eval_tmp ((hin 7 115 rfl).trans (congrArg some (show uu 7 = .pointer (some ⟨bk3, 18, none⟩) from (hd 7 (by decide) (by kernel_rfl)).2)))) (eval_tmp ((hin 6 114 rfl).trans (congrArg some (show uu 6 = .int .i64 1 from (hd 6 (by decide) (by kernel_rfl)).2)))) (fun _ => by kernel_rfl) (hK _ _ (hJ.grow hLi (by simp) (by simp) (Below.refl _ _)) rfl veL_same)⟩
  ·
   exact .inr ⟨rfl, fun K' hK => wp_load 23 (.tmp 116) rfl bk3 21 3 (cT (expT (ofV ((m + n) * a) ((m + n) * b) ((m + n) * c)))) (cS (expT (ofV ((m + n) * a) ((m + n) * b) ((m + n) * c))).c.y) 50 (hJ.em.es.at' _ (List.mem_of_getElem? (i := 1) rfl)) (eval_tmp ((hin 8 116 rfl).trans (congrArg some (show uu 8 = .pointer (some ⟨bk3, 21, none⟩) from (hd 8 (by decide) (by kernel_rfl)).2)))) ag23 sz23 (Nat.le_of_ble_eq_true (by kernel_rfl)) (by kernel_rfl) (hK _ _ (hJ.grow hLi (by simp) (by simp) (Below.refl _ _)) rfl veL_same)⟩
  ·
   exact .inr ⟨rfl, fun K' hK => wp_callv (.func 41) #[.tmp 112, .tmp 117] _ 41 #[] #[.agg (cS (mulT (expT (ofV (m * a) (m * b) (m * c))) (expT (ofV (n * a) (n * b) (n * c)))).c.y), .agg (cS (expT (ofV ((m + n) * a) ((m + n) * b) ((m + n) * c))).c.y)] #[.agg (cS (mulT (expT (ofV (m * a) (m * b) (m * c))) (expT (ofV (n * a) (n * b) (n * c)))).c.y), .agg (cS (expT (ofV ((m + n) * a) ((m + n) * b) ((m + n) * c))).c.y)] rfl rfl (map2 (eval_tmp ((hin 4 112 rfl).trans (congrArg some (show uu 4 = .agg (cS (mulT (expT (ofV (m * a) (m * b) (m * c))) (expT (ofV (n * a) (n * b) (n * c)))).c.y) from (hd 4 (by decide) (by kernel_rfl)).2)))) (eval_tmp ((hin 9 117 rfl).trans (congrArg some (show uu 9 = .agg (cS (expT (ofV ((m + n) * a) ((m + n) * b) ((m + n) * c))).c.y) from (hd 9 (by decide) (by kernel_rfl)).2))))) (by kernel_rfl) (fun _ _ => by kernel_rfl) (meet_yes HM.out.2.2.2.1 ww) (fun _ hB => (hK _ _ (hJ.grow hLi (by simp) (by simp) hB) rfl (veL_flat rfl)))⟩
  ·
   exact .inr ⟨rfl, fun K' hK => wp_move (.tmp 118) rfl (eval_tmp ((hin 10 118 rfl).trans (congrArg some (show uu 10 = .tuple #[.agg (cS (meetS (mulT (expT (ofV (m * a) (m * b) (m * c))) (expT (ofV (n * a) (n * b) (n * c)))).c.y (expT (ofV ((m + n) * a) ((m + n) * b) ((m + n) * c))).c.y)), .bool true] from (hd 10 (by decide) (by kernel_rfl)).2)))) (hK _ _ (hJ.grow hLi (by simp) (by simp) (Below.refl _ _)) rfl veL_same)⟩
  ·
   exact .inr ⟨rfl, fun K' hK => wp_ext (.tmp 107) 0 rfl (eval_tmp ((hin 11 107 rfl).trans (congrArg some (show uu 11 = .tuple #[.agg (cS (meetS (mulT (expT (ofV (m * a) (m * b) (m * c))) (expT (ofV (n * a) (n * b) (n * c)))).c.y (expT (ofV ((m + n) * a) ((m + n) * b) ((m + n) * c))).c.y)), .bool true] from (hd 11 (by decide) (by kernel_rfl)).2)))) (fun _ => rfl) (hK _ _ (hJ.grow hLi (by simp) (by simp) (Below.refl _ _)) rfl veL_same)⟩
  ·
   exact .inr ⟨rfl, fun K' hK => wp_ext (.tmp 107) 1 rfl (eval_tmp ((hin 11 107 rfl).trans (congrArg some (show uu 11 = .tuple #[.agg (cS (meetS (mulT (expT (ofV (m * a) (m * b) (m * c))) (expT (ofV (n * a) (n * b) (n * c)))).c.y (expT (ofV ((m + n) * a) ((m + n) * b) ((m + n) * c))).c.y)), .bool true] from (hd 11 (by decide) (by kernel_rfl)).2)))) (fun _ => rfl) (hK _ _ (hJ.grow hLi (by simp) (by simp) (Below.refl _ _)) rfl veL_same)⟩
  ·
   exact .inr ⟨rfl, fun K' hK => wp_alloc 23 rfl (.agg (cS zS)) zv23 (hK _ _ (hJ.alloc hLi (n := 3) rfl (by simp) (by simp)) trivial (veL_flat rfl))⟩
  ·
   have hLa := (hd 14 (by decide) (by kernel_rfl)).1
   obtain ⟨kb, kC, ke, kge, ksz, kcl⟩ := hJ.bx (14, 3, 23) (by simp) hLa
   have x18 : aa.tmps[18]? = some (.pointer (some ⟨kb, 0, none⟩)) := (hin 14 18 rfl).trans (congrArg some ke)
   have x119 : aa.tmps[119]? = some (.agg (cS (meetS (mulT (expT (ofV (m * a) (m * b) (m * c))) (expT (ofV (n * a) (n * b) (n * c)))).c.y (expT (ofV ((m + n) * a) ((m + n) * b) ((m + n) * c))).c.y))) := ((hin 12 119 rfl).trans (congrArg some (show uu 12 = .agg (cS (meetS (mulT (expT (ofV (m * a) (m * b) (m * c))) (expT (ofV (n * a) (n * b) (n * c)))).c.y (expT (ofV ((m + n) * a) ((m + n) * b) ((m + n) * c))).c.y)) from (hd 12 (by decide) (by kernel_rfl)).2)))
   clear hd hev hin
   simp only [List.getElem_cons_succ, List.getElem_cons_zero]
   clear hl
   refine .inr ⟨rfl, fun K' hK => ?_⟩
   have HK := Lib.hid hK
   clear hK
   refine wp_store 23 (.tmp 18) (.tmp 119) rfl 0 kb 0 kC 23 3 (cS (meetS (mulT (expT (ofV (m * a) (m * b) (m * c))) (expT (ofV (n * a) (n * b) (n * c)))).c.y (expT (ofV ((m + n) * a) ((m + n) * b) ((m + n) * c))).c.y)).toList (hJ.em.join kge kcl) rfl (eval_tmp x18) (by rw [eval_tmp x119]; rfl) sz23 (by kernel_rfl) (by rw [ksz]; decide) (by kernel_rfl) (fun ww2 hE hk hz => ?_)
   rw [putC_full (show kC.size = (cS (meetS (mulT (expT (ofV (m * a) (m * b) (m * c))) (expT (ofV (n * a) (n * b) (n * c)))).c.y (expT (ofV ((m + n) * a) ((m + n) * b) ((m + n) * c))).c.y)).toList.length from ksz), Array.toArray_toList] at hE
   exact HK.out undef _ (hJ.store (a := 14) (n := 3) (T := 23) (Cn := (cS (meetS (mulT (expT (ofV (m * a) (m * b) (m * c))) (expT (ofV (n * a) (n * b) (n * c)))).c.y (expT (ofV ((m + n) * a) ((m + n) * b) ((m + n) * c))).c.y))) hLi (by simp) (by simp) (by simp) (by simp) (by simp) (by simp) hLa ke kge rfl hE hk hz) trivial (veL_flat rfl)
  ·
   exact .inr ⟨rfl, fun K' hK => wp_asgn (.tmp 120) rfl (eval_tmp ((hin 13 120 rfl).trans (congrArg some (show uu 13 = .bool true from (hd 13 (by decide) (by kernel_rfl)).2)))) (hK _ _ (hJ.grow hLi (by simp) (by simp) (Below.refl _ _)) rfl veL_same)⟩
 clear hM
 intro LL uu W27 hLL hJm hd
 have e_0 : uu 0 = .int .i64 2 := hd 0 (by decide)
 have e_1 : uu 1 = .int .i64 1 := hd 1 (by decide)
 have e_2 : uu 2 = .pointer (some ⟨bk4, 18, none⟩) := hd 2 (by decide)
 have e_3 : uu 3 = .pointer (some ⟨bk4, 21, none⟩) := hd 3 (by decide)
 have e_4 : uu 4 = .agg (cS (mulT (expT (ofV (m * a) (m * b) (m * c))) (expT (ofV (n * a) (n * b) (n * c)))).c.y) := hd 4 (by decide)
 have e_5 : uu 5 = .int .i64 2 := hd 5 (by decide)
 have e_6 : uu 6 = .int .i64 1 := hd 6 (by decide)
 have e_7 : uu 7 = .pointer (some ⟨bk3, 18, none⟩) := hd 7 (by decide)
 have e_8 : uu 8 = .pointer (some ⟨bk3, 21, none⟩) := hd 8 (by decide)
 have e_9 : uu 9 = .agg (cS (expT (ofV ((m + n) * a) ((m + n) * b) ((m + n) * c))).c.y) := hd 9 (by decide)
 have e_10 : uu 10 = .tuple #[.agg (cS (meetS (mulT (expT (ofV (m * a) (m * b) (m * c))) (expT (ofV (n * a) (n * b) (n * c)))).c.y (expT (ofV ((m + n) * a) ((m + n) * b) ((m + n) * c))).c.y)), .bool true] := hd 10 (by decide)
 have e_11 : uu 11 = .tuple #[.agg (cS (meetS (mulT (expT (ofV (m * a) (m * b) (m * c))) (expT (ofV (n * a) (n * b) (n * c)))).c.y (expT (ofV ((m + n) * a) ((m + n) * b) ((m + n) * c))).c.y)), .bool true] := hd 11 (by decide)
 have e_12 : uu 12 = .agg (cS (meetS (mulT (expT (ofV (m * a) (m * b) (m * c))) (expT (ofV (n * a) (n * b) (n * c)))).c.y (expT (ofV ((m + n) * a) ((m + n) * b) ((m + n) * c))).c.y)) := hd 12 (by decide)
 have e_13 : uu 13 = .bool true := hd 13 (by decide)
 obtain ⟨bk12, kC14, e_14, nge14, ksz14, nB14⟩ := hJm.bx (14, 3, 23) (by simp) (hLL 14 (by decide))
 have e_16 : uu 16 = .bool true := hd 16 (by decide)
 obtain ⟨_, kb15, ke15, kl15⟩ := hJm.st (15, 14, (cS (meetS (mulT (expT (ofV (m * a) (m * b) (m * c))) (expT (ofV (n * a) (n * b) (n * c)))).c.y (expT (ofV ((m + n) * a) ((m + n) * b) ((m + n) * c))).c.y)), 23) (by simp) (hLL 15 (by decide))
 have kq15 : kb15 = bk12 := by
  have hq := ke15.symm.trans e_14
  injection hq with hq
  injection hq with hq
  injection hq with hq
 subst kq15
 clear ke15
 have g14 := hJm.em.join nge14 kl15
 clear hd hLL
 simp only [layS, Act.put, List.setIfInBounds_toArray, List.set_cons_succ, List.set_cons_zero, Nat.zero_add, Nat.reduceAdd, List.drop_succ_cons, List.drop_zero, List.drop_nil, e_0, e_1, e_2, e_3, e_4, e_5, e_6, e_7, e_8, e_9, e_10, e_11, e_12, e_13, e_14, e_16]
 have hJ27 := g14
 clear hJm e_0 e_1 e_2 e_3 e_4 e_5 e_6 e_7 e_8 e_9 e_10 e_11 e_12 e_13 e_14 e_16 nge14 nB14 ksz14 g14
 have hJ27d := hJ27.sub (List.sublist_cons_self _ _)
 clear hJ27
 go_wp2
 rw [rounds_succ]
 go_wp2
 obtain ⟨m17_27, hm⟩ : ∃ m, m = W27.heap.size := ⟨_, rfl⟩
 have hM : ∀ uu, Jz w m17_27 [(bk4, (cT (mulT (expT (ofV (m * a) (m * b) (m * c))) (expT (ofV (n * a) (n * b) (n * c))))), 50), (bk3, (cT (expT (ofV ((m + n) * a) ((m + n) * b) ((m + n) * c)))), 50), (bk2, (cT (expT (ofV (n * a) (n * b) (n * c)))), 50), (bk1, (cT (expT (ofV (m * a) (m * b) (m * c)))), 50)] [(14, 3, 23)] [(15, 14, (cS (meetS (mulT (expT (ofV (m * a) (m * b) (m * c))) (expT (ofV (n * a) (n * b) (n * c)))).c.z (expT (ofV ((m + n) * a) ((m + n) * b) ((m + n) * c))).c.z)), 23)] (fun _ => false) uu W27.drew := fun uu => by rw [hm]; exact Jz.start hJ27d uu
 clear hm hJ27d
 refine wp_region_y 17 [some 108, some 109, some 110, some 111, some 112, some 113, some 114, some 115, some 116, some 117, some 118, some 107, some 119, some 120, some 18, none, some 19] (veL m17_27 [.eq (.int .i64 2), .eq (.int .i64 2), .eq (.pointer (some ⟨bk4, 18, none⟩)), .eq (.pointer (some ⟨bk4, 24, none⟩)), .eq (.agg (cS (mulT (expT (ofV (m * a) (m * b) (m * c))) (expT (ofV (n * a) (n * b) (n * c)))).c.z)), .eq (.int .i64 2), .eq (.int .i64 2), .eq (.pointer (some ⟨bk3, 18, none⟩)), .eq (.pointer (some ⟨bk3, 24, none⟩)), .eq (.agg (cS (expT (ofV ((m + n) * a) ((m + n) * b) ((m + n) * c))).c.z)), .eq (.tuple #[.agg (cS (meetS (mulT (expT (ofV (m * a) (m * b) (m * c))) (expT (ofV (n * a) (n * b) (n * c)))).c.z (expT (ofV ((m + n) * a) ((m + n) * b) ((m + n) * c))).c.z)), .bool true]), .eq (.tuple #[.agg (cS (meetS (mulT (expT (ofV (m * a) (m * b) (m * c))) (expT (ofV (n * a) (n * b) (n * c)))).c.z (expT (ofV ((m + n) * a) ((m + n) * b) ((m + n) * c))).c.z)), .bool true]), .eq (.agg (cS (meetS (mulT (expT (ofV (m * a) (m * b) (m * c))) (expT (ofV (n * a) (n * b) (n * c)))).c.z (expT (ofV ((m + n) * a) ((m + n) * b) ((m + n) * c))).c.z))), .eq (.bool true), .any, .any, .eq (.bool true)]) (Jz w m17_27 [(bk4, (cT (mulT (expT (ofV (m * a) (m * b) (m * c))) (expT (ofV (n * a) (n * b) (n * c))))), 50), (bk3, (cT (expT (ofV ((m + n) * a) ((m + n) * b) ((m + n) * c)))), 50), (bk2, (cT (expT (ofV (n * a) (n * b) (n * c)))), 50), (bk1, (cT (expT (ofV (m * a) (m * b) (m * c)))), 50)] [(14, 3, 23)] [(15, 14, (cS (meetS (mulT (expT (ofV (m * a) (m * b) (m * c))) (expT (ofV (n * a) (n * b) (n * c)))).c.z (expT (ofV ((m + n) * a) ((m + n) * b) ((m + n) * c))).c.z)), 23)]) (by kernel_rfl) (by kernel_rfl) (by rfl) (by decide) (by rfl) hM ?_ ?_
 ·
  intro i hl hi LL uu ww aa hLi hJ hd hev hin
  clear hM
  obtain rfl | rfl | rfl | rfl | rfl | rfl | rfl | rfl | rfl | rfl | rfl | rfl | rfl | rfl | rfl | rfl | rfl : i = 0 ∨ i = 1 ∨ i = 2 ∨ i = 3 ∨ i = 4 ∨ i = 5 ∨ i = 6 ∨ i = 7 ∨ i = 8 ∨ i = 9 ∨ i = 10 ∨ i = 11 ∨ i = 12 ∨ i = 13 ∨ i = 14 ∨ i = 15 ∨ i = 16 := by omega
  ·
   exact .inr ⟨rfl, fun K' hK => wp_move (.tmp 16) rfl (eval_tmp ((hev 16 (by decide)).trans rfl)) (hK _ _ (hJ.grow hLi (by simp) (by simp) (Below.refl _ _)) rfl veL_same)⟩
  ·
   exact .inr ⟨rfl, fun K' hK => wp_move (.tmp 17) rfl (eval_tmp ((hev 17 (by decide)).trans rfl)) (hK _ _ (hJ.grow hLi (by simp) (by simp) (Below.refl _ _)) rfl veL_same)⟩
  ·
   exact .inr ⟨rfl, fun K' hK => wp_ixa 50 (.tmp 15) (.tmp 108) rfl (eval_tmp ((hev 15 (by decide)).trans rfl)) (eval_tmp ((hin 0 108 rfl).trans (congrArg some (show uu 0 = .int .i64 2 from (hd 0 (by decide) (by kernel_rfl)).2)))) (fun _ => by kernel_rfl) (hK _ _ (hJ.grow hLi (by simp) (by simp) (Below.refl _ _)) rfl veL_same)⟩
  ·
   exact .inr ⟨rfl, fun K' hK => wp_ixa 25 (.tmp 110) (.tmp 109) rfl (eval_tmp ((hin 2 110 rfl).trans (congrArg some (show uu 2 = .pointer (some ⟨bk4, 18, none⟩) from (hd 2 (by decide) (by kernel_rfl)).2)))) (eval_tmp ((hin 1 109 rfl).trans (congrArg some (show uu 1 = .int .i64 2 from (hd 1 (by decide) (by kernel_rfl)).2)))) (fun _ => by kernel_rfl) (hK _ _ (hJ.grow hLi (by simp) (by simp) (Below.refl _ _)) rfl veL_same)⟩
  ·
   exact .inr ⟨rfl, fun K' hK => wp_load 23 (.tmp 111) rfl bk4 24 3 (cT (mulT (expT (ofV (m * a) (m * b) (m * c))) (expT (ofV (n * a) (n * b) (n * c))))) (cS (mulT (expT (ofV (m * a) (m * b) (m * c))) (expT (ofV (n * a) (n * b) (n * c)))).c.z) 50 (hJ.em.es.at' _ (List.mem_of_getElem? (i := 0) rfl)) (eval_tmp ((hin 3 111 rfl).trans (congrArg some (show uu 3 = .pointer (some ⟨bk4, 24, none⟩) from (hd 3 (by decide) (by kernel_rfl)).2)))) ag23 sz23 (Nat.le_of_ble_eq_true (by kernel_rfl)) (by kernel_rfl) (hK _ _ (hJ.grow hLi (by simp) (by simp) (Below.refl _ _)) rfl veL_same)⟩
  ·
   exact .inr ⟨rfl, fun K' hK => wp_move (.tmp 16) rfl (eval_tmp ((hev 16 (by decide)).trans rfl)) (hK _ _ (hJ.grow hLi (by simp) (by simp) (Below.refl _ _)) rfl veL_same)⟩
  ·
   exact .inr ⟨rfl, fun K' hK => wp_move (.tmp 17) rfl (eval_tmp ((hev 17 (by decide)).trans rfl)) (hK _ _ (hJ.grow hLi (by simp) (by simp) (Below.refl _ _)) rfl veL_same)⟩
  ·
   exact .inr ⟨rfl, fun K' hK => wp_ixa 50 (.tmp 14) (.tmp 113) rfl (eval_tmp ((hev 14 (by decide)).trans rfl)) (eval_tmp ((hin 5 113 rfl).trans (congrArg some (show uu 5 = .int .i64 2 from (hd 5 (by decide) (by kernel_rfl)).2)))) (fun _ => by kernel_rfl) (hK _ _ (hJ.grow hLi (by simp) (by simp) (Below.refl _ _)) rfl veL_same)⟩
  ·
   exact .inr ⟨rfl, fun K' hK => wp_ixa 25 (.tmp 115) (.tmp 114) rfl (eval_tmp ((hin 7 115 rfl).trans (congrArg some (show uu 7 = .pointer (some ⟨bk3, 18, none⟩) from (hd 7 (by decide) (by kernel_rfl)).2)))) (eval_tmp ((hin 6 114 rfl).trans (congrArg some (show uu 6 = .int .i64 2 from (hd 6 (by decide) (by kernel_rfl)).2)))) (fun _ => by kernel_rfl) (hK _ _ (hJ.grow hLi (by simp) (by simp) (Below.refl _ _)) rfl veL_same)⟩
  ·
   exact .inr ⟨rfl, fun K' hK => wp_load 23 (.tmp 116) rfl bk3 24 3 (cT (expT (ofV ((m + n) * a) ((m + n) * b) ((m + n) * c)))) (cS (expT (ofV ((m + n) * a) ((m + n) * b) ((m + n) * c))).c.z) 50 (hJ.em.es.at' _ (List.mem_of_getElem? (i := 1) rfl)) (eval_tmp ((hin 8 116 rfl).trans (congrArg some (show uu 8 = .pointer (some ⟨bk3, 24, none⟩) from (hd 8 (by decide) (by kernel_rfl)).2)))) ag23 sz23 (Nat.le_of_ble_eq_true (by kernel_rfl)) (by kernel_rfl) (hK _ _ (hJ.grow hLi (by simp) (by simp) (Below.refl _ _)) rfl veL_same)⟩
  ·
   exact .inr ⟨rfl, fun K' hK => wp_callv (.func 41) #[.tmp 112, .tmp 117] _ 41 #[] #[.agg (cS (mulT (expT (ofV (m * a) (m * b) (m * c))) (expT (ofV (n * a) (n * b) (n * c)))).c.z), .agg (cS (expT (ofV ((m + n) * a) ((m + n) * b) ((m + n) * c))).c.z)] #[.agg (cS (mulT (expT (ofV (m * a) (m * b) (m * c))) (expT (ofV (n * a) (n * b) (n * c)))).c.z), .agg (cS (expT (ofV ((m + n) * a) ((m + n) * b) ((m + n) * c))).c.z)] rfl rfl (map2 (eval_tmp ((hin 4 112 rfl).trans (congrArg some (show uu 4 = .agg (cS (mulT (expT (ofV (m * a) (m * b) (m * c))) (expT (ofV (n * a) (n * b) (n * c)))).c.z) from (hd 4 (by decide) (by kernel_rfl)).2)))) (eval_tmp ((hin 9 117 rfl).trans (congrArg some (show uu 9 = .agg (cS (expT (ofV ((m + n) * a) ((m + n) * b) ((m + n) * c))).c.z) from (hd 9 (by decide) (by kernel_rfl)).2))))) (by kernel_rfl) (fun _ _ => by kernel_rfl) (meet_yes HM.out.2.2.2.2 ww) (fun _ hB => (hK _ _ (hJ.grow hLi (by simp) (by simp) hB) rfl (veL_flat rfl)))⟩
  ·
   exact .inr ⟨rfl, fun K' hK => wp_move (.tmp 118) rfl (eval_tmp ((hin 10 118 rfl).trans (congrArg some (show uu 10 = .tuple #[.agg (cS (meetS (mulT (expT (ofV (m * a) (m * b) (m * c))) (expT (ofV (n * a) (n * b) (n * c)))).c.z (expT (ofV ((m + n) * a) ((m + n) * b) ((m + n) * c))).c.z)), .bool true] from (hd 10 (by decide) (by kernel_rfl)).2)))) (hK _ _ (hJ.grow hLi (by simp) (by simp) (Below.refl _ _)) rfl veL_same)⟩
  ·
   exact .inr ⟨rfl, fun K' hK => wp_ext (.tmp 107) 0 rfl (eval_tmp ((hin 11 107 rfl).trans (congrArg some (show uu 11 = .tuple #[.agg (cS (meetS (mulT (expT (ofV (m * a) (m * b) (m * c))) (expT (ofV (n * a) (n * b) (n * c)))).c.z (expT (ofV ((m + n) * a) ((m + n) * b) ((m + n) * c))).c.z)), .bool true] from (hd 11 (by decide) (by kernel_rfl)).2)))) (fun _ => rfl) (hK _ _ (hJ.grow hLi (by simp) (by simp) (Below.refl _ _)) rfl veL_same)⟩
  ·
   exact .inr ⟨rfl, fun K' hK => wp_ext (.tmp 107) 1 rfl (eval_tmp ((hin 11 107 rfl).trans (congrArg some (show uu 11 = .tuple #[.agg (cS (meetS (mulT (expT (ofV (m * a) (m * b) (m * c))) (expT (ofV (n * a) (n * b) (n * c)))).c.z (expT (ofV ((m + n) * a) ((m + n) * b) ((m + n) * c))).c.z)), .bool true] from (hd 11 (by decide) (by kernel_rfl)).2)))) (fun _ => rfl) (hK _ _ (hJ.grow hLi (by simp) (by simp) (Below.refl _ _)) rfl veL_same)⟩
  ·
   exact .inr ⟨rfl, fun K' hK => wp_alloc 23 rfl (.agg (cS zS)) zv23 (hK _ _ (hJ.alloc hLi (n := 3) rfl (by simp) (by simp)) trivial (veL_flat rfl))⟩
  ·
   have hLa := (hd 14 (by decide) (by kernel_rfl)).1
   obtain ⟨kb, kC, ke, kge, ksz, kcl⟩ := hJ.bx (14, 3, 23) (by simp) hLa
   have x18 : aa.tmps[18]? = some (.pointer (some ⟨kb, 0, none⟩)) := (hin 14 18 rfl).trans (congrArg some ke)
   have x119 : aa.tmps[119]? = some (.agg (cS (meetS (mulT (expT (ofV (m * a) (m * b) (m * c))) (expT (ofV (n * a) (n * b) (n * c)))).c.z (expT (ofV ((m + n) * a) ((m + n) * b) ((m + n) * c))).c.z))) := ((hin 12 119 rfl).trans (congrArg some (show uu 12 = .agg (cS (meetS (mulT (expT (ofV (m * a) (m * b) (m * c))) (expT (ofV (n * a) (n * b) (n * c)))).c.z (expT (ofV ((m + n) * a) ((m + n) * b) ((m + n) * c))).c.z)) from (hd 12 (by decide) (by kernel_rfl)).2)))
   clear hd hev hin
   simp only [List.getElem_cons_succ, List.getElem_cons_zero]
   clear hl
   refine .inr ⟨rfl, fun K' hK => ?_⟩
   have HK := Lib.hid hK
   clear hK
   refine wp_store 23 (.tmp 18) (.tmp 119) rfl 0 kb 0 kC 23 3 (cS (meetS (mulT (expT (ofV (m * a) (m * b) (m * c))) (expT (ofV (n * a) (n * b) (n * c)))).c.z (expT (ofV ((m + n) * a) ((m + n) * b) ((m + n) * c))).c.z)).toList (hJ.em.join kge kcl) rfl (eval_tmp x18) (by rw [eval_tmp x119]; rfl) sz23 (by kernel_rfl) (by rw [ksz]; decide) (by kernel_rfl) (fun ww2 hE hk hz => ?_)
   rw [putC_full (show kC.size = (cS (meetS (mulT (expT (ofV (m * a) (m * b) (m * c))) (expT (ofV (n * a) (n * b) (n * c)))).c.z (expT (ofV ((m + n) * a) ((m + n) * b) ((m + n) * c))).c.z)).toList.length from ksz), Array.toArray_toList] at hE
   exact HK.out undef _ (hJ.store (a := 14) (n := 3) (T := 23) (Cn := (cS (meetS (mulT (expT (ofV (m * a) (m * b) (m * c))) (expT (ofV (n * a) (n * b) (n * c)))).c.z (expT (ofV ((m + n) * a) ((m + n) * b) ((m + n) * c))).c.z))) hLi (by simp) (by simp) (by simp) (by simp) (by simp) (by simp) hLa ke kge rfl hE hk hz) trivial (veL_flat rfl)
  ·
   exact .inr ⟨rfl, fun K' hK => wp_asgn (.tmp 120) rfl (eval_tmp ((hin 13 120 rfl).trans (congrArg some (show uu 13 = .bool true from (hd 13 (by decide) (by kernel_rfl)).2)))) (hK _ _ (hJ.grow hLi (by simp) (by simp) (Below.refl _ _)) rfl veL_same)⟩
 clear hM
 intro LL uu W28 hLL hJm hd
 have e_0 : uu 0 = .int .i64 2 := hd 0 (by decide)
 have e_1 : uu 1 = .int .i64 2 := hd 1 (by decide)
 have e_2 : uu 2 = .pointer (some ⟨bk4, 18, none⟩) := hd 2 (by decide)
 have e_3 : uu 3 = .pointer (some ⟨bk4, 24, none⟩) := hd 3 (by decide)
 have e_4 : uu 4 = .agg (cS (mulT (expT (ofV (m * a) (m * b) (m * c))) (expT (ofV (n * a) (n * b) (n * c)))).c.z) := hd 4 (by decide)
 have e_5 : uu 5 = .int .i64 2 := hd 5 (by decide)
 have e_6 : uu 6 = .int .i64 2 := hd 6 (by decide)
 have e_7 : uu 7 = .pointer (some ⟨bk3, 18, none⟩) := hd 7 (by decide)
 have e_8 : uu 8 = .pointer (some ⟨bk3, 24, none⟩) := hd 8 (by decide)
 have e_9 : uu 9 = .agg (cS (expT (ofV ((m + n) * a) ((m + n) * b) ((m + n) * c))).c.z) := hd 9 (by decide)
 have e_10 : uu 10 = .tuple #[.agg (cS (meetS (mulT (expT (ofV (m * a) (m * b) (m * c))) (expT (ofV (n * a) (n * b) (n * c)))).c.z (expT (ofV ((m + n) * a) ((m + n) * b) ((m + n) * c))).c.z)), .bool true] := hd 10 (by decide)
 have e_11 : uu 11 = .tuple #[.agg (cS (meetS (mulT (expT (ofV (m * a) (m * b) (m * c))) (expT (ofV (n * a) (n * b) (n * c)))).c.z (expT (ofV ((m + n) * a) ((m + n) * b) ((m + n) * c))).c.z)), .bool true] := hd 11 (by decide)
 have e_12 : uu 12 = .agg (cS (meetS (mulT (expT (ofV (m * a) (m * b) (m * c))) (expT (ofV (n * a) (n * b) (n * c)))).c.z (expT (ofV ((m + n) * a) ((m + n) * b) ((m + n) * c))).c.z)) := hd 12 (by decide)
 have e_13 : uu 13 = .bool true := hd 13 (by decide)
 obtain ⟨bk13, kC14, e_14, nge14, ksz14, nB14⟩ := hJm.bx (14, 3, 23) (by simp) (hLL 14 (by decide))
 have e_16 : uu 16 = .bool true := hd 16 (by decide)
 obtain ⟨_, kb15, ke15, kl15⟩ := hJm.st (15, 14, (cS (meetS (mulT (expT (ofV (m * a) (m * b) (m * c))) (expT (ofV (n * a) (n * b) (n * c)))).c.z (expT (ofV ((m + n) * a) ((m + n) * b) ((m + n) * c))).c.z)), 23) (by simp) (hLL 15 (by decide))
 have kq15 : kb15 = bk13 := by
  have hq := ke15.symm.trans e_14
  injection hq with hq
  injection hq with hq
  injection hq with hq
 subst kq15
 clear ke15
 have g14 := hJm.em.join nge14 kl15
 clear hd hLL
 simp only [layS, Act.put, List.setIfInBounds_toArray, List.set_cons_succ, List.set_cons_zero, Nat.zero_add, Nat.reduceAdd, List.drop_succ_cons, List.drop_zero, List.drop_nil, e_0, e_1, e_2, e_3, e_4, e_5, e_6, e_7, e_8, e_9, e_10, e_11, e_12, e_13, e_14, e_16]
 have hJ28 := g14
 clear hJm e_0 e_1 e_2 e_3 e_4 e_5 e_6 e_7 e_8 e_9 e_10 e_11 e_12 e_13 e_14 e_16 nge14 nB14 ksz14 g14
 have hJ28d := hJ28.sub (List.sublist_cons_self _ _)
 clear hJ28
 go_wp2
 rw [rounds_succ]
 go_wp2
 rw [rounds_succ]
 go_wp2
 go_ret
 exact ⟨rfl, hJ28d.below⟩
theorem tdiv_200 {x : Int} (h1 : -1048576 ≤ x) (h2 : x ≤ 1048576) : -5242 ≤ x.tdiv 200 ∧ x.tdiv 200 ≤ 5242 := by
 have e : (x.tdiv 200).natAbs = x.natAbs / 200 := by rw [Int.natAbs_tdiv]; rfl
 omega
theorem wrap_in {n : Int} (h1 : -9223372036854775808 ≤ n) (h2 : n ≤ 9223372036854775807) : wrap64 n = n := by unfold wrap64; omega
theorem RotTwice_any (x y z m n : Int) (w : World) : Calls Try.prog 7 #[.int .i64 x, .int .i64 y, .int .i64 z, .int .i64 m, .int .i64 n] w (PVal (.bool true) w) := by
 by_cases hx : -1048576 ≤ x ∧ x ≤ 1048576
 case neg => exact tw_o0 x y z m n (small_out hx) w
 by_cases hy : -1048576 ≤ y ∧ y ≤ 1048576
 case neg => exact tw_o1 x y z m n (small_in hx.1 hx.2) (small_out hy) w
 by_cases hz : -1048576 ≤ z ∧ z ≤ 1048576
 case neg => exact tw_o2 x y z m n (small_in hx.1 hx.2) (small_in hy.1 hy.2) (small_out hz) w
 have sx := small_in hx.1 hx.2
 have sy := small_in hy.1 hy.2
 have sz := small_in hz.1 hz.2
 by_cases h0 : m < -100
 ·
  exact tw_o3 x y z m n sx sy sz w (decide_eq_true h0)
 by_cases h1 : 100 < m
 ·
  exact tw_o4 x y z m n sx sy sz w (decide_eq_false h0) (decide_eq_true h1)
 by_cases h2 : n < -100
 ·
  exact tw_o5 x y z m n sx sy sz w (decide_eq_false h0) (decide_eq_false h1) (decide_eq_true h2)
 by_cases h3 : 100 < n
 ·
  exact tw_o6 x y z m n sx sy sz w (decide_eq_false h0) (decide_eq_false h1) (decide_eq_false h2) (decide_eq_true h3)
 have qx := tdiv_200 hx.1 hx.2
 have qy := tdiv_200 hy.1 hy.2
 have qz := tdiv_200 hz.1 hz.2
 have HM := twice_m qx.1 qx.2 qy.1 qy.2 qz.1 qz.2 (show -100 ≤ m by omega) (show m ≤ 100 by omega) (show -100 ≤ n by omega) (show n ≤ 100 by omega)
 have bw : ∀ {k d : Int}, -200 ≤ k → k ≤ 200 → -5242 ≤ d → d ≤ 5242 → wrap64 (k * d) = k * d ∧ wrap64 d = d := by
  intro k d k1 k2 d1 d2
  have := abs_mul_le k1 k2 d1 d2
  exact ⟨wrap_in (by omega) (by omega), wrap_in (by omega) (by omega)⟩
 exact tw_in x y z m n (x.tdiv 200) (y.tdiv 200) (z.tdiv 200) sx sy sz w (decide_eq_false h0) (decide_eq_false h1) (decide_eq_false h2) (decide_eq_false h3) ⟨rfl, wrap_in (by omega) (by omega)⟩ ⟨rfl, wrap_in (by omega) (by omega)⟩ ⟨rfl, wrap_in (by omega) (by omega)⟩
  (bw (by omega) (by omega) qx.1 qx.2) (bw (by omega) (by omega) qy.1 qy.2) (bw (by omega) (by omega) qz.1 qz.2) (bw (by omega) (by omega) qx.1 qx.2) (bw (by omega) (by omega) qy.1 qy.2) (bw (by omega) (by omega) qz.1 qz.2) (wrap_in (by omega) (by omega))
  (bw (by omega) (by omega) qx.1 qx.2) (bw (by omega) (by omega) qy.1 qy.2) (bw (by omega) (by omega) qz.1 qz.2) HM
end Go.Proofs.Ytdochhhepmlapaa
