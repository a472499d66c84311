/- Parts of the proof. -/
import Derived.Test.YtolpfibihialkaaGreatGr0
import Derived.Test.YtolpfibihialkaaGreatGr30
import Derived.Test.YtolpfibihialkaaGreatGr31
import Derived.Test.YtolpfibihialkaaGreatGr33
import Derived.Test.YtolpfibihialkaaGreatGr27
import Derived.Test.YtolpfibihialkaaGreatGr21
import Derived.Test.YtolpfibihialkaaGreatGr29
/- Package vec: the walks of its methods. No statement of the seat is proved here. -/
namespace Go.Proofs.YtolpfibihialkaaGreat
open Go Go.RowKit
attribute [local go_sem ↓] run_vbuild run_dbuild run_eqlB
theorem vsum_any (v : Vc) (w : World) : Calls Tryz.prog 46 #[.agg (cV v)] w (PVal (.agg (cS (sumV v))) w) :=
 sum_w v (addS v.x v.y) (sumV v) (sAdd_any v.x v.y) (sAdd_any (addS v.x v.y) v.z) w
set_option maxRecDepth 100000 in
set_option maxHeartbeats 12800000 in
theorem vDot_w (v u p : Vc) (r : Sp) (hH : ∀ W : World, Calls Tryz.prog 47 #[.agg (cV v), .agg (cV u), .func (.func 42) #[] #[]] W (PVal (.agg (cV p)) W)) (hH1 : ∀ W : World, Calls Tryz.prog 46 #[.agg (cV p)] W (PVal (.agg (cS r)) W))  (w : World)   : Calls Tryz.prog 26 #[.agg (cV v), .agg (cV u)] w (PVal (.agg (cS r)) w) := by
 have H := Lib.hid hH
 have H1 := Lib.hid hH1
 clear hH hH1
 have hJ0 := es_nil w
 go_enter Tryz.func26, Tryz.ntmps26
 go_wp2_with (refine stop_box 25 (.tmp 0) (cV v) rfl rfl rfl hJ0 (fun bk1 W1 hJ1 => ?_))
 clear hJ0
 unfold Stop
 try simp only [Act.put, zzC, zzD, zzE]
 go_wp2_with (refine stop_box 25 (.tmp 1) (cV u) rfl rfl rfl hJ1 (fun bk2 W2 hJ2 => ?_))
 clear hJ1
 unfold Stop
 try simp only [Act.put, zzC, zzD, zzE]
 go_wp2_with (refine stop_alloc 23 (cS zS) (.agg (cS zS)) rfl rfl zv23 rfl hJ2 (fun bk3 W3 hJ3 => ?_))
 clear hJ2
 unfold Stop
 try simp only [Act.put, zzC, zzD, zzE]
 go_wp2_with (refine stop_op rfl (fun K hK => wp_load 25 (.tmp 2) rfl bk1 0 9 (cV v) (cV v) 25 (hJ3.at' _ (zzG (i := 2) rfl)) rfl ag25 sz25 (zzF (by kernel_rfl)) (by kernel_rfl) (hK _ _ ?_)))
 unfold Stop
 try simp only [Act.put, zzC, zzD, zzE]
 go_wp2_with (refine stop_op rfl (fun K hK => wp_load 25 (.tmp 3) rfl bk2 0 9 (cV u) (cV u) 25 (hJ3.at' _ (zzG (i := 1) rfl)) rfl ag25 sz25 (zzF (by kernel_rfl)) (by kernel_rfl) (hK _ _ ?_)))
 unfold Stop
 try simp only [Act.put, zzC, zzD, zzE]
 go_wp2_with fail
 refine (H.out _).mono ?_
 rintro zz W4 ⟨rfl, hB⟩
 have hJ4 := hJ3.later hB
 clear hB
 clear hJ3
 go_wp2_with fail
 refine (H1.out _).mono ?_
 rintro zz W5 ⟨rfl, hB⟩
 have hJ5 := hJ4.later hB
 clear hB
 clear hJ4
 go_wp2_with (refine stop_store 23 (.tmp 4) (.tmp 8) 0 bk3 0 (cS zS) 23 3 (cS r).toList (cS r) [(bk3, (cS r), 23), (bk2, (cV u), 25), (bk1, (cV v), 25)] rfl rfl rfl rfl sz23 hJ5 rfl (by kernel_rfl) (zzF (by kernel_rfl)) (by kernel_rfl) (by kernel_rfl) (by kernel_rfl) (fun W6 hJ6 => ?_))
 clear hJ5
 unfold Stop
 try simp only [Act.put, zzC, zzD, zzE]
 go_wp2
 exact bodyPost_ret (v := .agg (cS r)) (results_cell 0 Tryz.results26 hJ6 rfl ag23 sz23 (zzF (by kernel_rfl)) rfl (by kernel_rfl)) rfl ⟨rfl, hJ6.below⟩
theorem vDot_any (v u : Vc) (w : World) : Calls Tryz.prog 26 #[.agg (cV v), .agg (cV u)] w (PVal (.agg (cS (dotV v u))) w) :=
 vDot_w v u (mulV v u) (dotV v u) (both_s _ v u (mulV v u) (sMul_any v.x u.x) (sMul_any v.y u.y) (sMul_any v.z u.z) (fun _ _ => by kernel_rfl)) (vsum_any (mulV v u)) w
set_option maxRecDepth 100000 in
set_option maxHeartbeats 12800000 in
theorem vCross_w (v u p q r : Vc) (hHv1 : ∀ W : World, Calls Tryz.prog 48 #[.agg (cV v), .int .i64 1] W (PVal (.agg (cV ⟨v.y, v.z, v.x⟩)) W)) (hHu2 : ∀ W : World, Calls Tryz.prog 48 #[.agg (cV u), .int .i64 2] W (PVal (.agg (cV ⟨u.z, u.x, u.y⟩)) W)) (hHp : ∀ W : World, Calls Tryz.prog 47 #[.agg (cV ⟨v.y, v.z, v.x⟩), .agg (cV ⟨u.z, u.x, u.y⟩), .func (.func 42) #[] #[]] W (PVal (.agg (cV p)) W)) (hHv2 : ∀ W : World, Calls Tryz.prog 48 #[.agg (cV v), .int .i64 2] W (PVal (.agg (cV ⟨v.z, v.x, v.y⟩)) W)) (hHu1 : ∀ W : World, Calls Tryz.prog 48 #[.agg (cV u), .int .i64 1] W (PVal (.agg (cV ⟨u.y, u.z, u.x⟩)) W)) (hHq : ∀ W : World, Calls Tryz.prog 47 #[.agg (cV ⟨v.z, v.x, v.y⟩), .agg (cV ⟨u.y, u.z, u.x⟩), .func (.func 42) #[] #[]] W (PVal (.agg (cV q)) W)) (hHr : ∀ W : World, Calls Tryz.prog 47 #[.agg (cV p), .agg (cV q), .func (.func 49) #[] #[]] W (PVal (.agg (cV r)) W))  (w : World)   : Calls Tryz.prog 28 #[.agg (cV v), .agg (cV u)] w (PVal (.agg (cV r)) w) := by
 have Hv1 := Lib.hid hHv1
 have Hu2 := Lib.hid hHu2
 have Hp := Lib.hid hHp
 have Hv2 := Lib.hid hHv2
 have Hu1 := Lib.hid hHu1
 have Hq := Lib.hid hHq
 have Hr := Lib.hid hHr
 clear hHv1 hHu2 hHp hHv2 hHu1 hHq hHr
 have hJ0 := es_nil w
 go_enter Tryz.func28, Tryz.ntmps28
 go_wp2_with (refine stop_box 25 (.tmp 0) (cV v) rfl rfl rfl hJ0 (fun bk1 W1 hJ1 => ?_))
 clear hJ0
 unfold Stop
 try simp only [Act.put, zzC, zzD, zzE]
 go_wp2_with (refine stop_box 25 (.tmp 1) (cV u) rfl rfl rfl hJ1 (fun bk2 W2 hJ2 => ?_))
 clear hJ1
 unfold Stop
 try simp only [Act.put, zzC, zzD, zzE]
 go_wp2_with (refine stop_alloc 25 (cV zV) (.agg (cV zV)) rfl rfl zv25 rfl hJ2 (fun bk3 W3 hJ3 => ?_))
 clear hJ2
 unfold Stop
 try simp only [Act.put, zzC, zzD, zzE]
 go_wp2
 obtain ⟨m1_3, hm⟩ : ∃ m, m = W3.heap.size := ⟨_, rfl⟩
 have hM := hJ3.em
 rw [← hm] at hM
 clear hm hJ3
 refine wp_region_z 6 [some 7, some 8, some 9, some 10, some 11, some 5] (veL m1_3 [.eq (.agg (cV v)), .eq (.agg (cV ⟨v.y, v.z, v.x⟩)), .eq (.agg (cV u)), .eq (.agg (cV ⟨u.z, u.x, u.y⟩)), .eq (.agg (cV p)), .box (cV zV) 24]) (Em w m1_3 [(bk3, (cV zV), 25), (bk2, (cV u), 25), (bk1, (cV v), 25)]) (by kernel_rfl) (by kernel_rfl) (by rfl) (by decide) (by rfl) hM ?_ ?_
 ·
  intro i hl hi uu ww aa hJ hd hev hin
  clear hM
  obtain rfl | rfl | rfl | rfl | rfl | rfl : i = 0 ∨ i = 1 ∨ i = 2 ∨ i = 3 ∨ i = 4 ∨ i = 5 := by omega
  ·
   exact .inr ⟨rfl, fun K' hK => wp_load 25 (.tmp 2) rfl bk1 0 9 (cV v) (cV v) 25 (hJ.es.at' _ (zzG (i := 2) rfl)) (eval_tmp ((hev 2 (by decide)).trans rfl)) ag25 sz25 (zzF (by kernel_rfl)) (by kernel_rfl) (hK _ _ hJ rfl veL_same)⟩
  ·
   exact .inr ⟨rfl, fun K' hK => wp_callv (.func 48) #[.tmp 7, .const (.int .i64 1)] _ 48 #[] #[.agg (cV v), .int .i64 1] #[.agg (cV v), .int .i64 1] rfl rfl (map2 (eval_tmp ((hin 0 7 rfl).trans (congrArg some (show uu 0 = .agg (cV v) from hd 0 (by decide) (by kernel_rfl))))) rfl) (by kernel_rfl) (fun _ _ => by kernel_rfl) (Hv1.out ww) (fun _ hB => (hK _ _ (hJ.later hB) rfl (veL_later hB)))⟩
  ·
   exact .inr ⟨rfl, fun K' hK => wp_load 25 (.tmp 3) rfl bk2 0 9 (cV u) (cV u) 25 (hJ.es.at' _ (zzG (i := 1) rfl)) (eval_tmp ((hev 3 (by decide)).trans rfl)) ag25 sz25 (zzF (by kernel_rfl)) (by kernel_rfl) (hK _ _ hJ rfl veL_same)⟩
  ·
   exact .inr ⟨rfl, fun K' hK => wp_callv (.func 48) #[.tmp 9, .const (.int .i64 2)] _ 48 #[] #[.agg (cV u), .int .i64 2] #[.agg (cV u), .int .i64 2] rfl rfl (map2 (eval_tmp ((hin 2 9 rfl).trans (congrArg some (show uu 2 = .agg (cV u) from hd 2 (by decide) (by kernel_rfl))))) rfl) (by kernel_rfl) (fun _ _ => by kernel_rfl) (Hu2.out ww) (fun _ hB => (hK _ _ (hJ.later hB) rfl (veL_later hB)))⟩
  ·
   exact .inr ⟨rfl, fun K' hK => wp_callv (.func 47) #[.tmp 8, .tmp 10, .func 42] _ 47 #[] #[.agg (cV ⟨v.y, v.z, v.x⟩), .agg (cV ⟨u.z, u.x, u.y⟩), .func (.func 42) #[] #[]] #[.agg (cV ⟨v.y, v.z, v.x⟩), .agg (cV ⟨u.z, u.x, u.y⟩), .func (.func 42) #[] #[]] rfl rfl (map3 (eval_tmp ((hin 1 8 rfl).trans (congrArg some (show uu 1 = .agg (cV ⟨v.y, v.z, v.x⟩) from hd 1 (by decide) (by kernel_rfl))))) (eval_tmp ((hin 3 10 rfl).trans (congrArg some (show uu 3 = .agg (cV ⟨u.z, u.x, u.y⟩) from hd 3 (by decide) (by kernel_rfl))))) rfl) (by kernel_rfl) (fun _ _ => by kernel_rfl) (Hp.out ww) (fun _ hB => (hK _ _ (hJ.later hB) rfl (veL_later hB)))⟩
  ·
   exact .inr ⟨rfl, fun K' hK => wp_alloc 24 rfl (.agg (cV zV)) zv24 (hK _ _ (hJ.later ((Below.refl _ _).alloc (Nat.le_refl _) _)) ⟨ww.heap.size, rfl, hJ.le, heap_new ww _⟩ (veL_later ((Below.refl _ _).alloc (Nat.le_refl _) _)))⟩
 clear hM
 intro uu W4 hJm hd
 have e_0 : uu 0 = .agg (cV v) := hd 0 (by decide)
 have e_1 : uu 1 = .agg (cV ⟨v.y, v.z, v.x⟩) := hd 1 (by decide)
 have e_2 : uu 2 = .agg (cV u) := hd 2 (by decide)
 have e_3 : uu 3 = .agg (cV ⟨u.z, u.x, u.y⟩) := hd 3 (by decide)
 have e_4 : uu 4 = .agg (cV p) := hd 4 (by decide)
 obtain ⟨bk4, e_5, nge5, nB5⟩ := (show veP m1_3 (.box (cV zV) 24) (uu 5) W4 from hd 5 (by decide))
 clear hd
 simp only [layS, Act.put, zzC, zzD, zzE, Nat.zero_add, Nat.reduceAdd, List.drop_succ_cons, List.drop_zero, List.drop_nil, e_0, e_1, e_2, e_3, e_4, e_5]
 clear e_0 e_1 e_2 e_3 e_4 e_5
 have hJ4 := hJm.join nge5 nB5
 clear hJm nge5 nB5
 go_wp2_with (refine stop_store 24 (.tmp 5) (.tmp 11) 0 bk4 0 (cV zV) 24 9 (cV p).toList (cV p) [(bk4, (cV p), 24), (bk3, (cV zV), 25), (bk2, (cV u), 25), (bk1, (cV v), 25)] rfl rfl rfl rfl sz24 hJ4 rfl (by kernel_rfl) (zzF (by kernel_rfl)) (by kernel_rfl) (by kernel_rfl) (by kernel_rfl) (fun W5 hJ5 => ?_))
 clear hJ4
 unfold Stop
 try simp only [Act.put, zzC, zzD, zzE]
 go_wp2
 obtain ⟨m2_5, hm⟩ : ∃ m, m = W5.heap.size := ⟨_, rfl⟩
 have hM := hJ5.em
 rw [← hm] at hM
 clear hm hJ5
 refine wp_region_z 6 [some 12, some 13, some 14, some 15, some 16, some 6] (veL m2_5 [.eq (.agg (cV v)), .eq (.agg (cV ⟨v.z, v.x, v.y⟩)), .eq (.agg (cV u)), .eq (.agg (cV ⟨u.y, u.z, u.x⟩)), .eq (.agg (cV q)), .box (cV zV) 24]) (Em w m2_5 [(bk4, (cV p), 24), (bk3, (cV zV), 25), (bk2, (cV u), 25), (bk1, (cV v), 25)]) (by kernel_rfl) (by kernel_rfl) (by rfl) (by decide) (by rfl) hM ?_ ?_
 ·
  intro i hl hi uu ww aa hJ hd hev hin
  clear hM
  obtain rfl | rfl | rfl | rfl | rfl | rfl : i = 0 ∨ i = 1 ∨ i = 2 ∨ i = 3 ∨ i = 4 ∨ i = 5 := by omega
  ·
   exact .inr ⟨rfl, fun K' hK => wp_load 25 (.tmp 2) rfl bk1 0 9 (cV v) (cV v) 25 (hJ.es.at' _ (zzG (i := 3) rfl)) (eval_tmp ((hev 2 (by decide)).trans rfl)) ag25 sz25 (zzF (by kernel_rfl)) (by kernel_rfl) (hK _ _ hJ rfl veL_same)⟩
  ·
   exact .inr ⟨rfl, fun K' hK => wp_callv (.func 48) #[.tmp 12, .const (.int .i64 2)] _ 48 #[] #[.agg (cV v), .int .i64 2] #[.agg (cV v), .int .i64 2] rfl rfl (map2 (eval_tmp ((hin 0 12 rfl).trans (congrArg some (show uu 0 = .agg (cV v) from hd 0 (by decide) (by kernel_rfl))))) rfl) (by kernel_rfl) (fun _ _ => by kernel_rfl) (Hv2.out ww) (fun _ hB => (hK _ _ (hJ.later hB) rfl (veL_later hB)))⟩
  ·
   exact .inr ⟨rfl, fun K' hK => wp_load 25 (.tmp 3) rfl bk2 0 9 (cV u) (cV u) 25 (hJ.es.at' _ (zzG (i := 2) rfl)) (eval_tmp ((hev 3 (by decide)).trans rfl)) ag25 sz25 (zzF (by kernel_rfl)) (by kernel_rfl) (hK _ _ hJ rfl veL_same)⟩
  ·
   exact .inr ⟨rfl, fun K' hK => wp_callv (.func 48) #[.tmp 14, .const (.int .i64 1)] _ 48 #[] #[.agg (cV u), .int .i64 1] #[.agg (cV u), .int .i64 1] rfl rfl (map2 (eval_tmp ((hin 2 14 rfl).trans (congrArg some (show uu 2 = .agg (cV u) from hd 2 (by decide) (by kernel_rfl))))) rfl) (by kernel_rfl) (fun _ _ => by kernel_rfl) (Hu1.out ww) (fun _ hB => (hK _ _ (hJ.later hB) rfl (veL_later hB)))⟩
  ·
   exact .inr ⟨rfl, fun K' hK => wp_callv (.func 47) #[.tmp 13, .tmp 15, .func 42] _ 47 #[] #[.agg (cV ⟨v.z, v.x, v.y⟩), .agg (cV ⟨u.y, u.z, u.x⟩), .func (.func 42) #[] #[]] #[.agg (cV ⟨v.z, v.x, v.y⟩), .agg (cV ⟨u.y, u.z, u.x⟩), .func (.func 42) #[] #[]] rfl rfl (map3 (eval_tmp ((hin 1 13 rfl).trans (congrArg some (show uu 1 = .agg (cV ⟨v.z, v.x, v.y⟩) from hd 1 (by decide) (by kernel_rfl))))) (eval_tmp ((hin 3 15 rfl).trans (congrArg some (show uu 3 = .agg (cV ⟨u.y, u.z, u.x⟩) from hd 3 (by decide) (by kernel_rfl))))) rfl) (by kernel_rfl) (fun _ _ => by kernel_rfl) (Hq.out ww) (fun _ hB => (hK _ _ (hJ.later hB) rfl (veL_later hB)))⟩
  ·
   exact .inr ⟨rfl, fun K' hK => wp_alloc 24 rfl (.agg (cV zV)) zv24 (hK _ _ (hJ.later ((Below.refl _ _).alloc (Nat.le_refl _) _)) ⟨ww.heap.size, rfl, hJ.le, heap_new ww _⟩ (veL_later ((Below.refl _ _).alloc (Nat.le_refl _) _)))⟩
 clear hM
 intro uu W6 hJm hd
 have e_0 : uu 0 = .agg (cV v) := hd 0 (by decide)
 have e_1 : uu 1 = .agg (cV ⟨v.z, v.x, v.y⟩) := hd 1 (by decide)
 have e_2 : uu 2 = .agg (cV u) := hd 2 (by decide)
 have e_3 : uu 3 = .agg (cV ⟨u.y, u.z, u.x⟩) := hd 3 (by decide)
 have e_4 : uu 4 = .agg (cV q) := hd 4 (by decide)
 obtain ⟨bk5, e_5, nge5, nB5⟩ := (show veP m2_5 (.box (cV zV) 24) (uu 5) W6 from hd 5 (by decide))
 clear hd
 simp only [layS, Act.put, zzC, zzD, zzE, Nat.zero_add, Nat.reduceAdd, List.drop_succ_cons, List.drop_zero, List.drop_nil, e_0, e_1, e_2, e_3, e_4, e_5]
 clear e_0 e_1 e_2 e_3 e_4 e_5
 have hJ6 := hJm.join nge5 nB5
 clear hJm nge5 nB5
 go_wp2_with (refine stop_store 24 (.tmp 6) (.tmp 16) 0 bk5 0 (cV zV) 24 9 (cV q).toList (cV q) [(bk5, (cV q), 24), (bk4, (cV p), 24), (bk3, (cV zV), 25), (bk2, (cV u), 25), (bk1, (cV v), 25)] rfl rfl rfl rfl sz24 hJ6 rfl (by kernel_rfl) (zzF (by kernel_rfl)) (by kernel_rfl) (by kernel_rfl) (by kernel_rfl) (fun W7 hJ7 => ?_))
 clear hJ6
 unfold Stop
 try simp only [Act.put, zzC, zzD, zzE]
 go_wp2_with (refine stop_op rfl (fun K hK => wp_load 24 (.tmp 5) rfl bk4 0 9 (cV p) (cV p) 24 (hJ7.at' _ (zzG (i := 1) rfl)) rfl ag24 sz24 (zzF (by kernel_rfl)) (by kernel_rfl) (hK _ _ ?_)))
 unfold Stop
 try simp only [Act.put, zzC, zzD, zzE]
 go_wp2_with (refine stop_op rfl (fun K hK => wp_load 24 (.tmp 6) rfl bk5 0 9 (cV q) (cV q) 24 (hJ7.at' _ (zzG (i := 0) rfl)) rfl ag24 sz24 (zzF (by kernel_rfl)) (by kernel_rfl) (hK _ _ ?_)))
 unfold Stop
 try simp only [Act.put, zzC, zzD, zzE]
 go_wp2_with fail
 refine (Hr.out _).mono ?_
 rintro zz W8 ⟨rfl, hB⟩
 have hJ8 := hJ7.later hB
 clear hB
 clear hJ7
 go_wp2_with (refine stop_store 25 (.tmp 4) (.tmp 19) 2 bk3 0 (cV zV) 25 9 (cV r).toList (cV r) [(bk5, (cV q), 24), (bk4, (cV p), 24), (bk3, (cV r), 25), (bk2, (cV u), 25), (bk1, (cV v), 25)] rfl rfl rfl rfl sz25 hJ8 rfl (by kernel_rfl) (zzF (by kernel_rfl)) (by kernel_rfl) (by kernel_rfl) (by kernel_rfl) (fun W9 hJ9 => ?_))
 clear hJ8
 unfold Stop
 try simp only [Act.put, zzC, zzD, zzE]
 go_wp2
 exact bodyPost_ret (v := .agg (cV r)) (results_cell 2 Tryz.results28 hJ9 rfl ag25 sz25 (zzF (by kernel_rfl)) rfl (by kernel_rfl)) rfl ⟨rfl, hJ9.below⟩
theorem vCross_any (v u : Vc) (w : World) : Calls Tryz.prog 28 #[.agg (cV v), .agg (cV u)] w (PVal (.agg (cV (crossV v u))) w) :=
 vCross_w v u ⟨mulS v.y u.z, mulS v.z u.x, mulS v.x u.y⟩ ⟨mulS v.z u.y, mulS v.x u.z, mulS v.y u.x⟩ (crossV v u) (from1_w v) (from2_w u)
  (both_s _ ⟨v.y, v.z, v.x⟩ ⟨u.z, u.x, u.y⟩ ⟨mulS v.y u.z, mulS v.z u.x, mulS v.x u.y⟩ (sMul_any v.y u.z) (sMul_any v.z u.x) (sMul_any v.x u.y) (fun _ _ => by kernel_rfl)) (from2_w v) (from1_w u)
  (both_s _ ⟨v.z, v.x, v.y⟩ ⟨u.y, u.z, u.x⟩ ⟨mulS v.z u.y, mulS v.x u.z, mulS v.y u.x⟩ (sMul_any v.z u.y) (sMul_any v.x u.z) (sMul_any v.y u.x) (fun _ _ => by kernel_rfl))
  (both_s _ ⟨mulS v.y u.z, mulS v.z u.x, mulS v.x u.y⟩ ⟨mulS v.z u.y, mulS v.x u.z, mulS v.y u.x⟩ (crossV v u) (sSub_any (mulS v.y u.z) (mulS v.z u.y)) (sSub_any (mulS v.z u.x) (mulS v.x u.z)) (sSub_any (mulS v.x u.y) (mulS v.y u.x)) (fun _ _ => by kernel_rfl)) w
set_option maxRecDepth 100000 in
set_option maxHeartbeats 12800000 in
theorem vNorm_w (v p : Vc) (r : Sp) (hH : ∀ W : World, Calls Tryz.prog 59 #[.agg (cV v), .func (.func 60) #[] #[]] W (PVal (.agg (cV p)) W)) (hH1 : ∀ W : World, Calls Tryz.prog 46 #[.agg (cV p)] W (PVal (.agg (cS r)) W))  (w : World)   : Calls Tryz.prog 35 #[.agg (cV v)] w (PVal (.agg (cS r)) w) := by
 have H := Lib.hid hH
 have H1 := Lib.hid hH1
 clear hH hH1
 have hJ0 := es_nil w
 go_enter Tryz.func35, Tryz.ntmps35
 go_wp2_with (refine stop_box 25 (.tmp 0) (cV v) rfl rfl rfl hJ0 (fun bk1 W1 hJ1 => ?_))
 clear hJ0
 unfold Stop
 try simp only [Act.put, zzC, zzD, zzE]
 go_wp2_with (refine stop_alloc 23 (cS zS) (.agg (cS zS)) rfl rfl zv23 rfl hJ1 (fun bk2 W2 hJ2 => ?_))
 clear hJ1
 unfold Stop
 try simp only [Act.put, zzC, zzD, zzE]
 go_wp2_with (refine stop_op rfl (fun K hK => wp_load 25 (.tmp 1) rfl bk1 0 9 (cV v) (cV v) 25 (hJ2.at' _ (zzG (i := 1) rfl)) rfl ag25 sz25 (zzF (by kernel_rfl)) (by kernel_rfl) (hK _ _ ?_)))
 unfold Stop
 try simp only [Act.put, zzC, zzD, zzE]
 go_wp2_with fail
 refine (H.out _).mono ?_
 rintro zz W3 ⟨rfl, hB⟩
 have hJ3 := hJ2.later hB
 clear hB
 clear hJ2
 go_wp2_with fail
 refine (H1.out _).mono ?_
 rintro zz W4 ⟨rfl, hB⟩
 have hJ4 := hJ3.later hB
 clear hB
 clear hJ3
 go_wp2_with (refine stop_store 23 (.tmp 2) (.tmp 5) 0 bk2 0 (cS zS) 23 3 (cS r).toList (cS r) [(bk2, (cS r), 23), (bk1, (cV v), 25)] rfl rfl rfl rfl sz23 hJ4 rfl (by kernel_rfl) (zzF (by kernel_rfl)) (by kernel_rfl) (by kernel_rfl) (by kernel_rfl) (fun W5 hJ5 => ?_))
 clear hJ4
 unfold Stop
 try simp only [Act.put, zzC, zzD, zzE]
 go_wp2
 exact bodyPost_ret (v := .agg (cS r)) (results_cell 0 Tryz.results35 hJ5 rfl ag23 sz23 (zzF (by kernel_rfl)) rfl (by kernel_rfl)) rfl ⟨rfl, hJ5.below⟩
theorem vNorm_any (v : Vc) (w : World) : Calls Tryz.prog 35 #[.agg (cV v)] w (PVal (.agg (cS (normV v))) w) :=
 vNorm_w v (sqrV v) (normV v) (each_s _ v (sqrV v) (sSqr_any v.x) (sSqr_any v.y) (sSqr_any v.z) (fun _ _ => by kernel_rfl)) (vsum_any (sqrV v)) w
set_option maxRecDepth 100000 in
set_option maxHeartbeats 12800000 in
theorem vIn_w (v u : Vc) (r0 r1 r2 : Bool) (hH : ∀ W : World, Calls Tryz.prog 50 #[.agg (cV v), .agg (cV u), .func (.func 51) #[] #[]] W (PVal (.agg #[.bool r0, .bool r1, .bool r2]) W))  (w : World)   : Calls Tryz.prog 29 #[.agg (cV v), .agg (cV u)] w (PVal (.bool (r0 && (r1 && r2))) w) := by
 have H := Lib.hid hH
 clear hH
 have hJ0 := es_nil w
 go_enter Tryz.func29, Tryz.ntmps29
 go_wp2_with (refine stop_box 25 (.tmp 0) (cV v) rfl rfl rfl hJ0 (fun bk1 W1 hJ1 => ?_))
 clear hJ0
 unfold Stop
 try simp only [Act.put, zzC, zzD, zzE]
 go_wp2_with (refine stop_box 25 (.tmp 1) (cV u) rfl rfl rfl hJ1 (fun bk2 W2 hJ2 => ?_))
 clear hJ1
 unfold Stop
 try simp only [Act.put, zzC, zzD, zzE]
 go_wp2_with (refine stop_op rfl (fun K hK => wp_load 25 (.tmp 2) rfl bk1 0 9 (cV v) (cV v) 25 (hJ2.at' _ (zzG (i := 1) rfl)) rfl ag25 sz25 (zzF (by kernel_rfl)) (by kernel_rfl) (hK _ _ ?_)))
 unfold Stop
 try simp only [Act.put, zzC, zzD, zzE]
 go_wp2_with (refine stop_op rfl (fun K hK => wp_load 25 (.tmp 3) rfl bk2 0 9 (cV u) (cV u) 25 (hJ2.at' _ (zzG (i := 0) rfl)) rfl ag25 sz25 (zzF (by kernel_rfl)) (by kernel_rfl) (hK _ _ ?_)))
 unfold Stop
 try simp only [Act.put, zzC, zzD, zzE]
 go_wp2_with fail
 refine (H.out _).mono ?_
 rintro zz W3 ⟨rfl, hB⟩
 have hJ3 := hJ2.later hB
 clear hB
 clear hJ2
 go_wp2_with (refine stop_op rfl (fun K hK => wp_bld (v := .agg #[.bool true, .bool true, .bool true]) (pv := #[(0, .bool true), (1, .bool true), (2, .bool true)]) 64 #[(0, .const (.bool true)), (1, .const (.bool true)), (2, .const (.bool true))] rfl (bmap3 rfl rfl rfl) (fun _ => by kernel_rfl) (hK _ _ ?_)))
 unfold Stop
 try simp only [Act.put, zzC, zzD, zzE]
 go_wp2
 go_ret
 exact ⟨rfl, hJ3.below⟩
theorem vIn_any (v u : Vc) (w : World) : Calls Tryz.prog 29 #[.agg (cV v), .agg (cV u)] w (PVal (.bool (inV v u)) w) :=
 vIn_w v u (inB v.x u.x) (inB v.y u.y) (inB v.z u.z) (both_b _ v u (inB v.x u.x) (inB v.y u.y) (inB v.z u.z) (In_any v.x u.x) (In_any v.y u.y) (In_any v.z u.z) (fun _ _ => by kernel_rfl)) w
set_option maxRecDepth 100000 in
set_option maxHeartbeats 12800000 in
theorem vRad_w (v : Vc) (r0 r1 r2 : Int) (hH : ∀ W : World, Calls Tryz.prog 52 #[.agg (cV v), .func (.func 53) #[] #[]] W (PVal (.agg #[.int .i64 r0, .int .i64 r1, .int .i64 r2]) W))  (w : World)   : Calls Tryz.prog 30 #[.agg (cV v)] w (PVal (.int .i64 (max (max r0 r1) r2)) w) := by
 have H := Lib.hid hH
 clear hH
 have hJ0 := es_nil w
 go_enter Tryz.func30, Tryz.ntmps30
 go_wp2_with (refine stop_box 25 (.tmp 0) (cV v) rfl rfl rfl hJ0 (fun bk1 W1 hJ1 => ?_))
 clear hJ0
 unfold Stop
 try simp only [Act.put, zzC, zzD, zzE]
 go_wp2_with (refine stop_op rfl (fun K hK => wp_load 25 (.tmp 1) rfl bk1 0 9 (cV v) (cV v) 25 (hJ1.at' _ (zzG (i := 0) rfl)) rfl ag25 sz25 (zzF (by kernel_rfl)) (by kernel_rfl) (hK _ _ ?_)))
 unfold Stop
 try simp only [Act.put, zzC, zzD, zzE]
 go_wp2_with fail
 refine (H.out _).mono ?_
 rintro zz W2 ⟨rfl, hB⟩
 have hJ2 := hJ1.later hB
 clear hB
 clear hJ1
 go_wp2_with (refine stop_alloc 68 #[.int .i64 0, .int .i64 0, .int .i64 0] (.agg #[.int .i64 0, .int .i64 0, .int .i64 0]) rfl rfl zv68 rfl hJ2 (fun bk2 W3 hJ3 => ?_))
 clear hJ2
 unfold Stop
 try simp only [Act.put, zzC, zzD, zzE]
 go_wp2_with (refine stop_store 68 (.tmp 3) (.tmp 5) 0 bk2 0 #[.int .i64 0, .int .i64 0, .int .i64 0] 68 3 #[.int .i64 r0, .int .i64 r1, .int .i64 r2].toList #[.int .i64 r0, .int .i64 r1, .int .i64 r2] [(bk2, #[.int .i64 r0, .int .i64 r1, .int .i64 r2], 68), (bk1, (cV v), 25)] rfl rfl rfl rfl sz68 hJ3 rfl (by kernel_rfl) (zzF (by kernel_rfl)) (by kernel_rfl) (by kernel_rfl) (by kernel_rfl) (fun W4 hJ4 => ?_))
 clear hJ3
 unfold Stop
 try simp only [Act.put, zzC, zzD, zzE]
 go_wp2_with (refine stop_op rfl (fun K hK => wp_load1 (v := .int .i64 r0) 2 (.tmp 6) rfl bk2 0 #[.int .i64 r0, .int .i64 r1, .int .i64 r2] 68 (hJ4.at' _ (zzG (i := 0) rfl)) rfl ag2 (by kernel_rfl) (hK _ _ ?_)))
 unfold Stop
 try simp only [Act.put, zzC, zzD, zzE]
 go_wp2_with (refine stop_op rfl (fun K hK => wp_load1 (v := .int .i64 r1) 2 (.tmp 8) rfl bk2 1 #[.int .i64 r0, .int .i64 r1, .int .i64 r2] 68 (hJ4.at' _ (zzG (i := 0) rfl)) rfl ag2 (by kernel_rfl) (hK _ _ ?_)))
 unfold Stop
 try simp only [Act.put, zzC, zzD, zzE]
 go_wp2_with (refine stop_op rfl (fun K hK => wp_load1 (v := .int .i64 r2) 2 (.tmp 10) rfl bk2 2 #[.int .i64 r0, .int .i64 r1, .int .i64 r2] 68 (hJ4.at' _ (zzG (i := 0) rfl)) rfl ag2 (by kernel_rfl) (hK _ _ ?_)))
 unfold Stop
 try simp only [Act.put, zzC, zzD, zzE]
 go_wp2
 all_goals go_ret
 all_goals refine ⟨?_, hJ4.below⟩
 all_goals (refine congrArg Ending.returned ?_)
 all_goals (refine congrArg (Value.int .i64) ?_)
 all_goals omega
theorem vRad_any (v : Vc) (w : World) : Calls Tryz.prog 30 #[.agg (cV v)] w (PVal (.int .i64 (radV v)) w) :=
 vRad_w v (radS v.x) (radS v.y) (radS v.z) (each_i _ v (radS v.x) (radS v.y) (radS v.z) (Rad_any v.x) (Rad_any v.y) (Rad_any v.z) (fun _ _ => by kernel_rfl)) w
set_option maxRecDepth 100000 in
set_option maxHeartbeats 12800000 in
theorem vOf_w (a b c : Int) (p q r : Sp) (hHa : ∀ W : World, Calls Tryz.prog 23 #[.int .i64 a, .int .i64 a] W (PVal (.agg (cS p)) W)) (hHb : ∀ W : World, Calls Tryz.prog 23 #[.int .i64 b, .int .i64 b] W (PVal (.agg (cS q)) W)) (hHc : ∀ W : World, Calls Tryz.prog 23 #[.int .i64 c, .int .i64 c] W (PVal (.agg (cS r)) W))  (w : World)   : Calls Tryz.prog 21 #[.int .i64 a, .int .i64 b, .int .i64 c] w (PVal (.agg (cV ⟨p, q, r⟩)) w) := by
 have Ha := Lib.hid hHa
 have Hb := Lib.hid hHb
 have Hc := Lib.hid hHc
 clear hHa hHb hHc
 have hJ0 := es_nil w
 go_enter Tryz.func21, Tryz.ntmps21
 go_wp2_with (refine stop_alloc 25 (cV zV) (.agg (cV zV)) rfl rfl zv25 rfl hJ0 (fun bk1 W1 hJ1 => ?_))
 clear hJ0
 unfold Stop
 try simp only [Act.put, zzC, zzD, zzE]
 go_wp2_with fail
 refine (Ha.out _).mono ?_
 rintro zz W2 ⟨rfl, hB⟩
 have hJ2 := hJ1.later hB
 clear hB
 clear hJ1
 go_wp2_with fail
 refine (Hb.out _).mono ?_
 rintro zz W3 ⟨rfl, hB⟩
 have hJ3 := hJ2.later hB
 clear hB
 clear hJ2
 go_wp2_with fail
 refine (Hc.out _).mono ?_
 rintro zz W4 ⟨rfl, hB⟩
 have hJ4 := hJ3.later hB
 clear hB
 clear hJ3
 go_wp2_with (refine stop_op rfl (fun K hK => wp_bld (v := .agg (cV ⟨p, q, r⟩)) (pv := #[(0, .agg (cS p)), (1, .agg (cS q)), (2, .agg (cS r))]) 25 #[(0, .tmp 9), (1, .tmp 12), (2, .tmp 15)] rfl (bmap3 rfl rfl rfl) (fun _ => by kernel_rfl) (hK _ _ ?_)))
 unfold Stop
 try simp only [Act.put, zzC, zzD, zzE]
 go_wp2_with (refine stop_store 25 (.tmp 6) (.tmp 16) 0 bk1 0 (cV zV) 25 9 (cV ⟨p, q, r⟩).toList (cV ⟨p, q, r⟩) [(bk1, (cV ⟨p, q, r⟩), 25)] rfl rfl rfl rfl sz25 hJ4 rfl (by kernel_rfl) (zzF (by kernel_rfl)) (by kernel_rfl) (by kernel_rfl) (by kernel_rfl) (fun W5 hJ5 => ?_))
 clear hJ4
 unfold Stop
 try simp only [Act.put, zzC, zzD, zzE]
 go_wp2
 exact bodyPost_ret (v := .agg (cV ⟨p, q, r⟩)) (results_cell 0 Tryz.results21 hJ5 rfl ag25 sz25 (zzF (by kernel_rfl)) rfl (by kernel_rfl)) rfl ⟨rfl, hJ5.below⟩
theorem vOf_any (a b c : Int) (w : World) : Calls Tryz.prog 21 #[.int .i64 a, .int .i64 b, .int .i64 c] w (PVal (.agg (cV (ofV a b c))) w) :=
 vOf_w a b c (ofS a a) (ofS b b) (ofS c c) (sOf_any a a) (sOf_any b b) (sOf_any c c) w
end Go.Proofs.YtolpfibihialkaaGreat

/- Package rot: the walks of Apply, Det, In. No statement of the seat is proved here. -/
namespace Go.Proofs.YtolpfibihialkaaGreat
open Go Go.RowKit
set_option maxRecDepth 100000 in
set_option maxHeartbeats 12800000 in
theorem tApp_any (r : Tu) (v : Vc)  (w : World)   : Calls Tryz.prog 8 #[.agg (cT r), .agg (cV v)] w (PVal (.agg (cV (appT r v))) w) := by
 have hJ0 := es_nil w
 go_enter Tryz.func8, Tryz.ntmps8
 go_wp2_with (refine stop_box 27 (.tmp 0) (cT r) rfl rfl rfl hJ0 (fun bk1 W1 hJ1 => ?_))
 clear hJ0
 unfold Stop
 try simp only [Act.put, zzC, zzD, zzE]
 go_wp2_with (refine stop_box 25 (.tmp 1) (cV v) rfl rfl rfl hJ1 (fun bk2 W2 hJ2 => ?_))
 clear hJ1
 unfold Stop
 try simp only [Act.put, zzC, zzD, zzE]
 go_wp2_with (refine stop_alloc 25 (cV zV) (.agg (cV zV)) rfl rfl zv25 rfl hJ2 (fun bk3 W3 hJ3 => ?_))
 clear hJ2
 unfold Stop
 try simp only [Act.put, zzC, zzD, zzE]
 go_wp2
 obtain ⟨m1_3, hm⟩ : ∃ m, m = W3.heap.size := ⟨_, rfl⟩
 have hM := hJ3.em
 rw [← hm] at hM
 clear hm hJ3
 refine wp_region_z 13 [some 5, some 6, some 7, some 8, some 9, some 10, some 11, some 12, some 13, some 14, some 15, some 16, some 17] (veL m1_3 [.eq (.pointer (some ⟨bk1, 0, none⟩)), .eq (.agg (cV r.a)), .eq (.agg (cV v)), .eq (.agg (cS (dotV r.a v))), .eq (.pointer (some ⟨bk1, 9, none⟩)), .eq (.agg (cV r.b)), .eq (.agg (cV v)), .eq (.agg (cS (dotV r.b v))), .eq (.pointer (some ⟨bk1, 18, none⟩)), .eq (.agg (cV r.c)), .eq (.agg (cV v)), .eq (.agg (cS (dotV r.c v))), .eq (.agg (cV ⟨(dotV r.a v), (dotV r.b v), (dotV r.c v)⟩))]) (Em w m1_3 [(bk3, (cV zV), 25), (bk2, (cV v), 25), (bk1, (cT r), 27)]) (by kernel_rfl) (by kernel_rfl) (by rfl) (by decide) (by rfl) hM ?_ ?_
 ·
  intro i hl hi uu ww aa hJ hd hev hin
  clear hM
  obtain rfl | rfl | rfl | rfl | rfl | rfl | rfl | rfl | rfl | rfl | rfl | rfl | rfl : i = 0 ∨ i = 1 ∨ i = 2 ∨ i = 3 ∨ i = 4 ∨ i = 5 ∨ i = 6 ∨ i = 7 ∨ i = 8 ∨ i = 9 ∨ i = 10 ∨ i = 11 ∨ i = 12 := by omega
  ·
   exact .inr ⟨rfl, fun K' hK => wp_ixa 27 (.tmp 2) (.const (.int .i64 0)) rfl (eval_tmp ((hev 2 (by decide)).trans rfl)) rfl (fun _ => by kernel_rfl) (hK _ _ hJ rfl veL_same)⟩
  ·
   exact .inr ⟨rfl, fun K' hK => wp_load 25 (.tmp 5) rfl bk1 0 9 (cT r) (cV r.a) 27 (hJ.es.at' _ (zzG (i := 2) rfl)) (eval_tmp ((hin 0 5 rfl).trans (congrArg some (show uu 0 = .pointer (some ⟨bk1, 0, none⟩) from hd 0 (by decide) (by kernel_rfl))))) ag25 sz25 (zzF (by kernel_rfl)) (by kernel_rfl) (hK _ _ hJ rfl veL_same)⟩
  ·
   exact .inr ⟨rfl, fun K' hK => wp_load 25 (.tmp 3) rfl bk2 0 9 (cV v) (cV v) 25 (hJ.es.at' _ (zzG (i := 1) rfl)) (eval_tmp ((hev 3 (by decide)).trans rfl)) ag25 sz25 (zzF (by kernel_rfl)) (by kernel_rfl) (hK _ _ hJ rfl veL_same)⟩
  ·
   exact .inr ⟨rfl, fun K' hK => wp_callv (.func 26) #[.tmp 6, .tmp 7] _ 26 #[] #[.agg (cV r.a), .agg (cV v)] #[.agg (cV r.a), .agg (cV v)] rfl rfl (map2 (eval_tmp ((hin 1 6 rfl).trans (congrArg some (show uu 1 = .agg (cV r.a) from hd 1 (by decide) (by kernel_rfl))))) (eval_tmp ((hin 2 7 rfl).trans (congrArg some (show uu 2 = .agg (cV v) from hd 2 (by decide) (by kernel_rfl)))))) (by kernel_rfl) (fun _ _ => by kernel_rfl) (vDot_any r.a v ww) (fun _ hB => (hK _ _ (hJ.later hB) rfl (veL_later hB)))⟩
  ·
   exact .inr ⟨rfl, fun K' hK => wp_ixa 27 (.tmp 2) (.const (.int .i64 1)) rfl (eval_tmp ((hev 2 (by decide)).trans rfl)) rfl (fun _ => by kernel_rfl) (hK _ _ hJ rfl veL_same)⟩
  ·
   exact .inr ⟨rfl, fun K' hK => wp_load 25 (.tmp 9) rfl bk1 9 9 (cT r) (cV r.b) 27 (hJ.es.at' _ (zzG (i := 2) rfl)) (eval_tmp ((hin 4 9 rfl).trans (congrArg some (show uu 4 = .pointer (some ⟨bk1, 9, none⟩) from hd 4 (by decide) (by kernel_rfl))))) ag25 sz25 (zzF (by kernel_rfl)) (by kernel_rfl) (hK _ _ hJ rfl veL_same)⟩
  ·
   exact .inr ⟨rfl, fun K' hK => wp_load 25 (.tmp 3) rfl bk2 0 9 (cV v) (cV v) 25 (hJ.es.at' _ (zzG (i := 1) rfl)) (eval_tmp ((hev 3 (by decide)).trans rfl)) ag25 sz25 (zzF (by kernel_rfl)) (by kernel_rfl) (hK _ _ hJ rfl veL_same)⟩
  ·
   exact .inr ⟨rfl, fun K' hK => wp_callv (.func 26) #[.tmp 10, .tmp 11] _ 26 #[] #[.agg (cV r.b), .agg (cV v)] #[.agg (cV r.b), .agg (cV v)] rfl rfl (map2 (eval_tmp ((hin 5 10 rfl).trans (congrArg some (show uu 5 = .agg (cV r.b) from hd 5 (by decide) (by kernel_rfl))))) (eval_tmp ((hin 6 11 rfl).trans (congrArg some (show uu 6 = .agg (cV v) from hd 6 (by decide) (by kernel_rfl)))))) (by kernel_rfl) (fun _ _ => by kernel_rfl) (vDot_any r.b v ww) (fun _ hB => (hK _ _ (hJ.later hB) rfl (veL_later hB)))⟩
  ·
   exact .inr ⟨rfl, fun K' hK => wp_ixa 27 (.tmp 2) (.const (.int .i64 2)) rfl (eval_tmp ((hev 2 (by decide)).trans rfl)) rfl (fun _ => by kernel_rfl) (hK _ _ hJ rfl veL_same)⟩
  ·
   exact .inr ⟨rfl, fun K' hK => wp_load 25 (.tmp 13) rfl bk1 18 9 (cT r) (cV r.c) 27 (hJ.es.at' _ (zzG (i := 2) rfl)) (eval_tmp ((hin 8 13 rfl).trans (congrArg some (show uu 8 = .pointer (some ⟨bk1, 18, none⟩) from hd 8 (by decide) (by kernel_rfl))))) ag25 sz25 (zzF (by kernel_rfl)) (by kernel_rfl) (hK _ _ hJ rfl veL_same)⟩
  ·
   exact .inr ⟨rfl, fun K' hK => wp_load 25 (.tmp 3) rfl bk2 0 9 (cV v) (cV v) 25 (hJ.es.at' _ (zzG (i := 1) rfl)) (eval_tmp ((hev 3 (by decide)).trans rfl)) ag25 sz25 (zzF (by kernel_rfl)) (by kernel_rfl) (hK _ _ hJ rfl veL_same)⟩
  ·
   exact .inr ⟨rfl, fun K' hK => wp_callv (.func 26) #[.tmp 14, .tmp 15] _ 26 #[] #[.agg (cV r.c), .agg (cV v)] #[.agg (cV r.c), .agg (cV v)] rfl rfl (map2 (eval_tmp ((hin 9 14 rfl).trans (congrArg some (show uu 9 = .agg (cV r.c) from hd 9 (by decide) (by kernel_rfl))))) (eval_tmp ((hin 10 15 rfl).trans (congrArg some (show uu 10 = .agg (cV v) from hd 10 (by decide) (by kernel_rfl)))))) (by kernel_rfl) (fun _ _ => by kernel_rfl) (vDot_any r.c v ww) (fun _ hB => (hK _ _ (hJ.later hB) rfl (veL_later hB)))⟩
  ·
   exact .inr ⟨rfl, fun K' hK => wp_bld 25 #[(0, .tmp 8), (1, .tmp 12), (2, .tmp 16)] rfl (bmap3 (eval_tmp ((hin 3 8 rfl).trans (congrArg some (show uu 3 = .agg (cS (dotV r.a v)) from hd 3 (by decide) (by kernel_rfl))))) (eval_tmp ((hin 7 12 rfl).trans (congrArg some (show uu 7 = .agg (cS (dotV r.b v)) from hd 7 (by decide) (by kernel_rfl))))) (eval_tmp ((hin 11 16 rfl).trans (congrArg some (show uu 11 = .agg (cS (dotV r.c v)) from hd 11 (by decide) (by kernel_rfl)))))) (fun _ => by kernel_rfl) (hK _ _ hJ rfl veL_same)⟩
 clear hM
 intro uu W4 hJm hd
 have e_0 : uu 0 = .pointer (some ⟨bk1, 0, none⟩) := hd 0 (by decide)
 have e_1 : uu 1 = .agg (cV r.a) := hd 1 (by decide)
 have e_2 : uu 2 = .agg (cV v) := hd 2 (by decide)
 have e_3 : uu 3 = .agg (cS (dotV r.a v)) := hd 3 (by decide)
 have e_4 : uu 4 = .pointer (some ⟨bk1, 9, none⟩) := hd 4 (by decide)
 have e_5 : uu 5 = .agg (cV r.b) := hd 5 (by decide)
 have e_6 : uu 6 = .agg (cV v) := hd 6 (by decide)
 have e_7 : uu 7 = .agg (cS (dotV r.b v)) := hd 7 (by decide)
 have e_8 : uu 8 = .pointer (some ⟨bk1, 18, none⟩) := hd 8 (by decide)
 have e_9 : uu 9 = .agg (cV r.c) := hd 9 (by decide)
 have e_10 : uu 10 = .agg (cV v) := hd 10 (by decide)
 have e_11 : uu 11 = .agg (cS (dotV r.c v)) := hd 11 (by decide)
 have e_12 : uu 12 = .agg (cV ⟨(dotV r.a v), (dotV r.b v), (dotV r.c v)⟩) := hd 12 (by decide)
 clear hd
 simp only [layS, Act.put, zzC, zzD, zzE, Nat.zero_add, Nat.reduceAdd, List.drop_succ_cons, List.drop_zero, List.drop_nil, e_0, e_1, e_2, e_3, e_4, e_5, e_6, e_7, e_8, e_9, e_10, e_11, e_12]
 clear e_0 e_1 e_2 e_3 e_4 e_5 e_6 e_7 e_8 e_9 e_10 e_11 e_12
 have hJ4 := hJm.es
 clear hJm
 go_wp2_with (refine stop_store 25 (.tmp 4) (.tmp 17) 0 bk3 0 (cV zV) 25 9 (cV ⟨(dotV r.a v), (dotV r.b v), (dotV r.c v)⟩).toList (cV ⟨(dotV r.a v), (dotV r.b v), (dotV r.c v)⟩) [(bk3, (cV ⟨(dotV r.a v), (dotV r.b v), (dotV r.c v)⟩), 25), (bk2, (cV v), 25), (bk1, (cT r), 27)] rfl rfl rfl rfl sz25 hJ4 rfl (by kernel_rfl) (zzF (by kernel_rfl)) (by kernel_rfl) (by kernel_rfl) (by kernel_rfl) (fun W5 hJ5 => ?_))
 clear hJ4
 unfold Stop
 try simp only [Act.put, zzC, zzD, zzE]
 go_wp2
 exact bodyPost_ret (v := .agg (cV ⟨(dotV r.a v), (dotV r.b v), (dotV r.c v)⟩)) (results_cell 0 Tryz.results8 hJ5 rfl ag25 sz25 (zzF (by kernel_rfl)) rfl (by kernel_rfl)) rfl ⟨rfl, hJ5.below⟩
set_option maxRecDepth 100000 in
set_option maxHeartbeats 12800000 in
theorem tDet_any (r : Tu)  (w : World)   : Calls Tryz.prog 11 #[.agg (cT r)] w (PVal (.agg (cS (detT r))) w) := by
 have hJ0 := es_nil w
 go_enter Tryz.func11, Tryz.ntmps11
 go_wp2_with (refine stop_box 27 (.tmp 0) (cT r) rfl rfl rfl hJ0 (fun bk1 W1 hJ1 => ?_))
 clear hJ0
 unfold Stop
 try simp only [Act.put, zzC, zzD, zzE]
 go_wp2_with (refine stop_alloc 23 (cS zS) (.agg (cS zS)) rfl rfl zv23 rfl hJ1 (fun bk2 W2 hJ2 => ?_))
 clear hJ1
 unfold Stop
 try simp only [Act.put, zzC, zzD, zzE]
 go_wp2
 obtain ⟨m1_2, hm⟩ : ∃ m, m = W2.heap.size := ⟨_, rfl⟩
 have hM := hJ2.em
 rw [← hm] at hM
 clear hm hJ2
 refine wp_region_z 8 [some 3, some 4, some 5, some 6, some 7, some 8, some 9, some 10] (veL m1_2 [.eq (.pointer (some ⟨bk1, 0, none⟩)), .eq (.agg (cV r.a)), .eq (.pointer (some ⟨bk1, 9, none⟩)), .eq (.agg (cV r.b)), .eq (.pointer (some ⟨bk1, 18, none⟩)), .eq (.agg (cV r.c)), .eq (.agg (cV (crossV r.b r.c))), .eq (.agg (cS (dotV r.a (crossV r.b r.c))))]) (Em w m1_2 [(bk2, (cS zS), 23), (bk1, (cT r), 27)]) (by kernel_rfl) (by kernel_rfl) (by rfl) (by decide) (by rfl) hM ?_ ?_
 ·
  intro i hl hi uu ww aa hJ hd hev hin
  clear hM
  obtain rfl | rfl | rfl | rfl | rfl | rfl | rfl | rfl : i = 0 ∨ i = 1 ∨ i = 2 ∨ i = 3 ∨ i = 4 ∨ i = 5 ∨ i = 6 ∨ i = 7 := by omega
  ·
   exact .inr ⟨rfl, fun K' hK => wp_ixa 27 (.tmp 1) (.const (.int .i64 0)) rfl (eval_tmp ((hev 1 (by decide)).trans rfl)) rfl (fun _ => by kernel_rfl) (hK _ _ hJ rfl veL_same)⟩
  ·
   exact .inr ⟨rfl, fun K' hK => wp_load 25 (.tmp 3) rfl bk1 0 9 (cT r) (cV r.a) 27 (hJ.es.at' _ (zzG (i := 1) rfl)) (eval_tmp ((hin 0 3 rfl).trans (congrArg some (show uu 0 = .pointer (some ⟨bk1, 0, none⟩) from hd 0 (by decide) (by kernel_rfl))))) ag25 sz25 (zzF (by kernel_rfl)) (by kernel_rfl) (hK _ _ hJ rfl veL_same)⟩
  ·
   exact .inr ⟨rfl, fun K' hK => wp_ixa 27 (.tmp 1) (.const (.int .i64 1)) rfl (eval_tmp ((hev 1 (by decide)).trans rfl)) rfl (fun _ => by kernel_rfl) (hK _ _ hJ rfl veL_same)⟩
  ·
   exact .inr ⟨rfl, fun K' hK => wp_load 25 (.tmp 5) rfl bk1 9 9 (cT r) (cV r.b) 27 (hJ.es.at' _ (zzG (i := 1) rfl)) (eval_tmp ((hin 2 5 rfl).trans (congrArg some (show uu 2 = .pointer (some ⟨bk1, 9, none⟩) from hd 2 (by decide) (by kernel_rfl))))) ag25 sz25 (zzF (by kernel_rfl)) (by kernel_rfl) (hK _ _ hJ rfl veL_same)⟩
  ·
   exact .inr ⟨rfl, fun K' hK => wp_ixa 27 (.tmp 1) (.const (.int .i64 2)) rfl (eval_tmp ((hev 1 (by decide)).trans rfl)) rfl (fun _ => by kernel_rfl) (hK _ _ hJ rfl veL_same)⟩
  ·
   exact .inr ⟨rfl, fun K' hK => wp_load 25 (.tmp 7) rfl bk1 18 9 (cT r) (cV r.c) 27 (hJ.es.at' _ (zzG (i := 1) rfl)) (eval_tmp ((hin 4 7 rfl).trans (congrArg some (show uu 4 = .pointer (some ⟨bk1, 18, none⟩) from hd 4 (by decide) (by kernel_rfl))))) ag25 sz25 (zzF (by kernel_rfl)) (by kernel_rfl) (hK _ _ hJ rfl veL_same)⟩
  ·
   exact .inr ⟨rfl, fun K' hK => wp_callv (.func 28) #[.tmp 6, .tmp 8] _ 28 #[] #[.agg (cV r.b), .agg (cV r.c)] #[.agg (cV r.b), .agg (cV r.c)] rfl rfl (map2 (eval_tmp ((hin 3 6 rfl).trans (congrArg some (show uu 3 = .agg (cV r.b) from hd 3 (by decide) (by kernel_rfl))))) (eval_tmp ((hin 5 8 rfl).trans (congrArg some (show uu 5 = .agg (cV r.c) from hd 5 (by decide) (by kernel_rfl)))))) (by kernel_rfl) (fun _ _ => by kernel_rfl) (vCross_any r.b r.c ww) (fun _ hB => (hK _ _ (hJ.later hB) rfl (veL_later hB)))⟩
  ·
   exact .inr ⟨rfl, fun K' hK => wp_callv (.func 26) #[.tmp 4, .tmp 9] _ 26 #[] #[.agg (cV r.a), .agg (cV (crossV r.b r.c))] #[.agg (cV r.a), .agg (cV (crossV r.b r.c))] rfl rfl (map2 (eval_tmp ((hin 1 4 rfl).trans (congrArg some (show uu 1 = .agg (cV r.a) from hd 1 (by decide) (by kernel_rfl))))) (eval_tmp ((hin 6 9 rfl).trans (congrArg some (show uu 6 = .agg (cV (crossV r.b r.c)) from hd 6 (by decide) (by kernel_rfl)))))) (by kernel_rfl) (fun _ _ => by kernel_rfl) (vDot_any r.a (crossV r.b r.c) ww) (fun _ hB => (hK _ _ (hJ.later hB) rfl (veL_later hB)))⟩
 clear hM
 intro uu W3 hJm hd
 have e_0 : uu 0 = .pointer (some ⟨bk1, 0, none⟩) := hd 0 (by decide)
 have e_1 : uu 1 = .agg (cV r.a) := hd 1 (by decide)
 have e_2 : uu 2 = .pointer (some ⟨bk1, 9, none⟩) := hd 2 (by decide)
 have e_3 : uu 3 = .agg (cV r.b) := hd 3 (by decide)
 have e_4 : uu 4 = .pointer (some ⟨bk1, 18, none⟩) := hd 4 (by decide)
 have e_5 : uu 5 = .agg (cV r.c) := hd 5 (by decide)
 have e_6 : uu 6 = .agg (cV (crossV r.b r.c)) := hd 6 (by decide)
 have e_7 : uu 7 = .agg (cS (dotV r.a (crossV r.b r.c))) := hd 7 (by decide)
 clear hd
 simp only [layS, Act.put, zzC, zzD, zzE, Nat.zero_add, Nat.reduceAdd, List.drop_succ_cons, List.drop_zero, List.drop_nil, e_0, e_1, e_2, e_3, e_4, e_5, e_6, e_7]
 clear e_0 e_1 e_2 e_3 e_4 e_5 e_6 e_7
 have hJ3 := hJm.es
 clear hJm
 go_wp2_with (refine stop_store 23 (.tmp 2) (.tmp 10) 0 bk2 0 (cS zS) 23 3 (cS (dotV r.a (crossV r.b r.c))).toList (cS (dotV r.a (crossV r.b r.c))) [(bk2, (cS (dotV r.a (crossV r.b r.c))), 23), (bk1, (cT r), 27)] rfl rfl rfl rfl sz23 hJ3 rfl (by kernel_rfl) (zzF (by kernel_rfl)) (by kernel_rfl) (by kernel_rfl) (by kernel_rfl) (fun W4 hJ4 => ?_))
 clear hJ3
 unfold Stop
 try simp only [Act.put, zzC, zzD, zzE]
 go_wp2
 exact bodyPost_ret (v := .agg (cS (dotV r.a (crossV r.b r.c)))) (results_cell 0 Tryz.results11 hJ4 rfl ag23 sz23 (zzF (by kernel_rfl)) rfl (by kernel_rfl)) rfl ⟨rfl, hJ4.below⟩
end Go.Proofs.YtolpfibihialkaaGreat
