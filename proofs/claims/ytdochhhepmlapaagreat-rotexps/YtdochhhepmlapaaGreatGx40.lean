/- Parts of the proof. -/
import Derived.Test.YtdochhhepmlapaaGreatGx36
import Derived.Test.YtdochhhepmlapaaGreatGx39
/- The walk of the law RotExps. No statement of the seat is proved here. -/
namespace Go.Proofs.YtdochhhepmlapaaGreat
open Go Go.RowKit
set_option maxRecDepth 100000 in
set_option maxHeartbeats 12800000 in
theorem RotExps_any (u : Vc)  (w : World)   : Calls Tryz.prog 3 #[.agg (cV u)] w (PVal (.bool true) w) := by
 have hJ0 := es_nil w
 go_enter Tryz.func3, Tryz.ntmps3
 go_wp2_with (refine stop_box 25 (.tmp 0) (cV u) rfl rfl rfl hJ0 (fun bk1 W1 hJ1 => ?_))
 clear hJ0
 unfold Stop
 try simp only [Act.put, List.setIfInBounds_toArray, List.set_cons_succ, List.set_cons_zero]
 go_wp2_with fail
 refine (rawake_any W1).mono ?_
 rintro zz W2 ⟨rfl, hB⟩
 have hJ2 := hJ1.later hB
 clear hB
 clear hJ1
 go_wp2_with (refine stop_op rfl (fun K hK => wp_load 25 (.tmp 1) rfl bk1 0 9 (cV u) (cV u) 25 (hJ2.at' _ (List.mem_of_getElem? (i := 0) rfl)) rfl ag25 sz25 (Nat.le_of_ble_eq_true (by kernel_rfl)) (by kernel_rfl) (hK _ _ ?_)))
 unfold Stop
 try simp only [Act.put, List.setIfInBounds_toArray, List.set_cons_succ, List.set_cons_zero]
 go_wp2_with fail
 refine (tExp_any u W2).mono ?_
 rintro zz W3 ⟨rfl, hB⟩
 have hJ3 := hJ2.later hB
 clear hB
 clear hJ2
 go_wp2_with fail
 refine (docT_any (expT u) W3).mono ?_
 rintro zz W4 ⟨rfl, hB⟩
 have hJ4 := hJ3.later hB
 clear hB
 clear hJ3
 go_wp2_with (refine stop_alloc 31 (cT zT) (.agg (cT zT)) rfl rfl zv31 rfl hJ4 (fun bk2 W5 hJ5 => ?_))
 clear hJ4
 unfold Stop
 try simp only [Act.put, List.setIfInBounds_toArray, List.set_cons_succ, List.set_cons_zero]
 go_wp2_with (refine stop_store 31 (.tmp 4) (.tmp 8) 0 bk2 0 (cT zT) 31 27 (cT (expT u)).toList (cT (expT u)) [(bk2, (cT (expT u)), 31), (bk1, (cV u), 25)] rfl rfl rfl rfl sz31 hJ5 rfl (by kernel_rfl) (Nat.le_of_ble_eq_true (by kernel_rfl)) (by kernel_rfl) (by kernel_rfl) (by kernel_rfl) (fun W6 hJ6 => ?_))
 clear hJ5
 unfold Stop
 try simp only [Act.put, List.setIfInBounds_toArray, List.set_cons_succ, List.set_cons_zero]
 go_wp2
 obtain ⟨m3_6, hm⟩ : ∃ m, m = W6.heap.size := ⟨_, rfl⟩
 have hM := hJ6.em
 rw [← hm] at hM
 clear hm hJ6
 refine wp_region_z 9 [some 9, some 10, some 11, some 12, some 13, some 14, some 15, some 16, some 2] (veL m3_6 [.eq (.bool true), .eq (.bool true), .eq (.agg (cT (expT u))), .eq (.agg (cV u)), .eq (.agg (cV u)), .eq (.agg (cT (expT u))), .eq (.bool true), .eq (.bool true), .eq (.bool true)]) (Em w m3_6 [(bk2, (cT (expT u)), 31), (bk1, (cV u), 25)]) (by kernel_rfl) (by kernel_rfl) (by rfl) (by decide) (by rfl) hM ?_ ?_
 ·
  intro i hl hi uu ww aa hJ hd hev hin
  clear hM
  obtain rfl | rfl | rfl | rfl | rfl | rfl | rfl | rfl | rfl : i = 0 ∨ i = 1 ∨ i = 2 ∨ i = 3 ∨ i = 4 ∨ i = 5 ∨ i = 6 ∨ i = 7 ∨ i = 8 := by omega
  ·
   exact .inr ⟨rfl, fun K' hK => wp_move (.tmp 3) rfl (eval_tmp ((hev 3 (by decide)).trans rfl)) (hK _ _ hJ rfl veL_same)⟩
  ·
   exact .inr ⟨rfl, fun K' hK => wp_move (.tmp 9) rfl (eval_tmp ((hin 0 9 rfl).trans (congrArg some (show uu 0 = .bool true from hd 0 (by decide) (by kernel_rfl))))) (hK _ _ hJ rfl veL_same)⟩
  ·
   have y1 : aa.tmps[10]? = some (.bool true) := (hin 1 10 rfl).trans (congrArg some (show uu 1 = .bool true from hd 1 (by decide) (by kernel_rfl)))
   exact .inr ⟨by simp [Region.wanted, yielded, y1], fun K' hK => wp_load 31 (.tmp 4) rfl bk2 0 27 (cT (expT u)) (cT (expT u)) 31 (hJ.es.at' _ (List.mem_of_getElem? (i := 0) rfl)) (eval_tmp ((hev 4 (by decide)).trans rfl)) ag31 sz31 (Nat.le_of_ble_eq_true (by kernel_rfl)) (by kernel_rfl) (hK _ _ hJ rfl veL_same)⟩
  ·
   have y1 : aa.tmps[10]? = some (.bool true) := (hin 1 10 rfl).trans (congrArg some (show uu 1 = .bool true from hd 1 (by decide) (by kernel_rfl)))
   exact .inr ⟨by simp [Region.wanted, yielded, y1], fun K' hK => wp_load 25 (.tmp 1) rfl bk1 0 9 (cV u) (cV u) 25 (hJ.es.at' _ (List.mem_of_getElem? (i := 1) rfl)) (eval_tmp ((hev 1 (by decide)).trans rfl)) ag25 sz25 (Nat.le_of_ble_eq_true (by kernel_rfl)) (by kernel_rfl) (hK _ _ hJ rfl veL_same)⟩
  ·
   have y1 : aa.tmps[10]? = some (.bool true) := (hin 1 10 rfl).trans (congrArg some (show uu 1 = .bool true from hd 1 (by decide) (by kernel_rfl)))
   exact .inr ⟨by simp [Region.wanted, yielded, y1], fun K' hK => wp_callv (.func 9) #[.tmp 12] _ 9 #[] #[.agg (cV u)] #[.agg (cV u)] rfl rfl (map1 (eval_tmp ((hin 3 12 rfl).trans (congrArg some (show uu 3 = .agg (cV u) from hd 3 (by decide) (by kernel_rfl)))))) (by kernel_rfl) (fun _ _ => by kernel_rfl) (rowT_any u ww) (fun _ hB => (hK _ _ (hJ.later hB) rfl (veL_later hB)))⟩
  ·
   have y1 : aa.tmps[10]? = some (.bool true) := (hin 1 10 rfl).trans (congrArg some (show uu 1 = .bool true from hd 1 (by decide) (by kernel_rfl)))
   exact .inr ⟨by simp [Region.wanted, yielded, y1], fun K' hK => wp_callv (.func 8) #[.tmp 13] _ 8 #[] #[.agg (cV u)] #[.agg (cV u)] rfl rfl (map1 (eval_tmp ((hin 4 13 rfl).trans (congrArg some (show uu 4 = .agg (cV u) from hd 4 (by decide) (by kernel_rfl)))))) (by kernel_rfl) (fun _ _ => by kernel_rfl) (oExp_any u ww) (fun _ hB => (hK _ _ (hJ.later hB) rfl (veL_later hB)))⟩
  ·
   have y1 : aa.tmps[10]? = some (.bool true) := (hin 1 10 rfl).trans (congrArg some (show uu 1 = .bool true from hd 1 (by decide) (by kernel_rfl)))
   exact .inr ⟨by simp [Region.wanted, yielded, y1], fun K' hK => wp_eqlA 31 31 (.tmp 11) (.tmp 14) rfl (cT (expT u)) (cT (expT u)) (eval_tmp ((hin 2 11 rfl).trans (congrArg some (show uu 2 = .agg (cT (expT u)) from hd 2 (by decide) (by kernel_rfl))))) (eval_tmp ((hin 5 14 rfl).trans (congrArg some (show uu 5 = .agg (cT (expT u)) from hd 5 (by decide) (by kernel_rfl))))) gd_R (eql_R rfl) (hK _ _ hJ rfl veL_same)⟩
  ·
   have x10 : aa.tmps[10]? = some (.bool true) := ((hin 1 10 rfl).trans (congrArg some (show uu 1 = .bool true from hd 1 (by decide) (by kernel_rfl))))
   have x15 : aa.tmps[15]? = some (.bool true) := ((hin 6 15 rfl).trans (congrArg some (show uu 6 = .bool true from hd 6 (by decide) (by kernel_rfl))))
   clear hd hev hin
   simp only [List.getElem_cons_succ, List.getElem_cons_zero]
   clear hl
   refine .inr ⟨rfl, fun K' hK => ?_⟩
   have HK := Lib.hid hK
   clear hK
   go_simp
   exact HK.out (.bool true) _ hJ rfl veL_same
  ·
   exact .inr ⟨rfl, fun K' hK => wp_asgn (.tmp 16) rfl (eval_tmp ((hin 7 16 rfl).trans (congrArg some (show uu 7 = .bool true from hd 7 (by decide) (by kernel_rfl))))) (hK _ _ hJ rfl veL_same)⟩
 clear hM
 intro uu W7 hJm hd
 have e_0 : uu 0 = .bool true := hd 0 (by decide)
 have e_1 : uu 1 = .bool true := hd 1 (by decide)
 have e_2 : uu 2 = .agg (cT (expT u)) := hd 2 (by decide)
 have e_3 : uu 3 = .agg (cV u) := hd 3 (by decide)
 have e_4 : uu 4 = .agg (cV u) := hd 4 (by decide)
 have e_5 : uu 5 = .agg (cT (expT u)) := hd 5 (by decide)
 have e_6 : uu 6 = .bool true := hd 6 (by decide)
 have e_7 : uu 7 = .bool true := hd 7 (by decide)
 have e_8 : uu 8 = .bool true := hd 8 (by decide)
 clear hd
 simp only [layS, Act.put, List.setIfInBounds_toArray, List.set_cons_succ, List.set_cons_zero, Nat.zero_add, Nat.reduceAdd, List.drop_succ_cons, List.drop_zero, List.drop_nil, e_0, e_1, e_2, e_3, e_4, e_5, e_6, e_7, e_8]
 clear e_0 e_1 e_2 e_3 e_4 e_5 e_6 e_7 e_8
 have hJ7 := hJm.es
 clear hJm
 go_wp2
 go_ret
 exact ⟨rfl, hJ7.below⟩
end Go.Proofs.YtdochhhepmlapaaGreat
