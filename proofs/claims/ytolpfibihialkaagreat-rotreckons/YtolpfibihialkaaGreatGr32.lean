/- Parts of the proof. -/
import Derived.Test.YtolpfibihialkaaGreatGr0
import Derived.Test.YtolpfibihialkaaGreatGr29
/- Package rot: the walk of made. No statement of the seat is proved here. -/
namespace Go.Proofs.YtolpfibihialkaaGreat
open Go Go.RowKit
set_option maxRecDepth 100000 in
set_option maxHeartbeats 12800000 in
theorem mkT_any (k : FuncId) (caps : Array Value) (va : Int → Int → Array Value) (r : Tu) (hva : ∀ i j : Int, #[.int .i64 i, .int .i64 j] ++ caps = va i j) (hk : ∀ (args : Array Value) (W : World), (callFunc k args).run Tryz.prog W = .ok (.enter k args) W)  (w : World) (h : ∀ i j : Nat, i < 3 → j < 3 → ∀ W : World, Below w.heap.size w W → Calls Tryz.prog k (va i j) W (PVal (.agg (cS (atT r i j))) W))  : Calls Tryz.prog 24 #[.func (.func k) #[] caps] w (PVal (.agg (cT r)) w) := by
 have H00 := Lib.hid (show ∀ W : World, Below w.heap.size w W → Calls Tryz.prog k (va 0 0) W (PVal (.agg (cS r.a.x)) W) from h 0 0 (by decide) (by decide))
 have H01 := Lib.hid (show ∀ W : World, Below w.heap.size w W → Calls Tryz.prog k (va 0 1) W (PVal (.agg (cS r.a.y)) W) from h 0 1 (by decide) (by decide))
 have H02 := Lib.hid (show ∀ W : World, Below w.heap.size w W → Calls Tryz.prog k (va 0 2) W (PVal (.agg (cS r.a.z)) W) from h 0 2 (by decide) (by decide))
 have H10 := Lib.hid (show ∀ W : World, Below w.heap.size w W → Calls Tryz.prog k (va 1 0) W (PVal (.agg (cS r.b.x)) W) from h 1 0 (by decide) (by decide))
 have H11 := Lib.hid (show ∀ W : World, Below w.heap.size w W → Calls Tryz.prog k (va 1 1) W (PVal (.agg (cS r.b.y)) W) from h 1 1 (by decide) (by decide))
 have H12 := Lib.hid (show ∀ W : World, Below w.heap.size w W → Calls Tryz.prog k (va 1 2) W (PVal (.agg (cS r.b.z)) W) from h 1 2 (by decide) (by decide))
 have H20 := Lib.hid (show ∀ W : World, Below w.heap.size w W → Calls Tryz.prog k (va 2 0) W (PVal (.agg (cS r.c.x)) W) from h 2 0 (by decide) (by decide))
 have H21 := Lib.hid (show ∀ W : World, Below w.heap.size w W → Calls Tryz.prog k (va 2 1) W (PVal (.agg (cS r.c.y)) W) from h 2 1 (by decide) (by decide))
 have H22 := Lib.hid (show ∀ W : World, Below w.heap.size w W → Calls Tryz.prog k (va 2 2) W (PVal (.agg (cS r.c.z)) W) from h 2 2 (by decide) (by decide))
 clear h
 have hJ0 := es_nil w
 go_enter Tryz.func24, Tryz.ntmps24
 go_wp2_with (refine stop_alloc 27 (cT zT) (.agg (cT zT)) rfl rfl zv27 rfl hJ0 (fun bk1 W1 hJ1 => ?_))
 clear hJ0
 unfold Stop
 try simp only [Act.put, zzC, zzD, zzE]
 go_wp2_with (refine stop_alloc 27 (cT zT) (.agg (cT zT)) rfl rfl zv27 rfl hJ1 (fun bk2 W2 hJ2 => ?_))
 clear hJ1
 unfold Stop
 try simp only [Act.put, zzC, zzD, zzE]
 go_wp2
 refine wp_loop_rounds 4 ?_
 rw [rounds_succ]
 go_wp2
 refine wp_loop_rounds 4 ?_
 rw [rounds_succ]
 go_wp2
 obtain ⟨m8_2, hm⟩ : ∃ m, m = W2.heap.size := ⟨_, rfl⟩
 have hM := hJ2.em
 rw [← hm] at hM
 clear hm hJ2
 refine wp_region_z 8 [some 12, some 13, some 14, some 15, some 16, some 17, some 18, some 19] (veL m8_2 [.eq (.int .i64 0), .eq (.int .i64 0), .eq (.func (.func k) #[] caps), .eq (.int .i64 0), .eq (.int .i64 0), .eq (.agg (cS r.a.x)), .eq (.pointer (some ⟨bk2, 0, none⟩)), .eq (.pointer (some ⟨bk2, 0, none⟩))]) (Em w m8_2 [(bk2, (cT zT), 27), (bk1, (cT zT), 27)]) (by kernel_rfl) (by kernel_rfl) (by rfl) (by decide) (by rfl) hM ?_ ?_
 ·
  intro i hl hi uu ww aa hJ hd hev hin
  clear hM
  obtain rfl | rfl | rfl | rfl | rfl | rfl | rfl | rfl : i = 0 ∨ i = 1 ∨ i = 2 ∨ i = 3 ∨ i = 4 ∨ i = 5 ∨ i = 6 ∨ i = 7 := by omega
  ·
   exact .inr ⟨rfl, fun K' hK => wp_move (.tmp 4) rfl (eval_tmp ((hev 4 (by decide)).trans rfl)) (hK _ _ hJ rfl veL_same)⟩
  ·
   exact .inr ⟨rfl, fun K' hK => wp_move (.tmp 5) rfl (eval_tmp ((hev 5 (by decide)).trans rfl)) (hK _ _ hJ rfl veL_same)⟩
  ·
   exact .inr ⟨rfl, fun K' hK => wp_move (.tmp 0) rfl (eval_tmp ((hev 0 (by decide)).trans rfl)) (hK _ _ hJ rfl veL_same)⟩
  ·
   exact .inr ⟨rfl, fun K' hK => wp_move (.tmp 4) rfl (eval_tmp ((hev 4 (by decide)).trans rfl)) (hK _ _ hJ rfl veL_same)⟩
  ·
   exact .inr ⟨rfl, fun K' hK => wp_move (.tmp 5) rfl (eval_tmp ((hev 5 (by decide)).trans rfl)) (hK _ _ hJ rfl veL_same)⟩
  ·
   exact .inr ⟨rfl, fun K' hK => wp_callv (.tmp 14) #[.tmp 15, .tmp 16] _ k caps #[.int .i64 0, .int .i64 0] (va 0 0) rfl (eval_tmp ((hin 2 14 rfl).trans (congrArg some (show uu 2 = .func (.func k) #[] caps from hd 2 (by decide) (by kernel_rfl))))) (map2 (eval_tmp ((hin 3 15 rfl).trans (congrArg some (show uu 3 = .int .i64 0 from hd 3 (by decide) (by kernel_rfl))))) (eval_tmp ((hin 4 16 rfl).trans (congrArg some (show uu 4 = .int .i64 0 from hd 4 (by decide) (by kernel_rfl)))))) (hva 0 0) hk (H00.out ww hJ.es.below) (fun _ hB => (hK _ _ (hJ.later hB) rfl (veL_later hB)))⟩
  ·
   exact .inr ⟨rfl, fun K' hK => wp_ixa 27 (.tmp 3) (.tmp 12) rfl (eval_tmp ((hev 3 (by decide)).trans rfl)) (eval_tmp ((hin 0 12 rfl).trans (congrArg some (show uu 0 = .int .i64 0 from hd 0 (by decide) (by kernel_rfl))))) (fun _ => by kernel_rfl) (hK _ _ hJ rfl veL_same)⟩
  ·
   exact .inr ⟨rfl, fun K' hK => wp_ixa 25 (.tmp 18) (.tmp 13) rfl (eval_tmp ((hin 6 18 rfl).trans (congrArg some (show uu 6 = .pointer (some ⟨bk2, 0, none⟩) from hd 6 (by decide) (by kernel_rfl))))) (eval_tmp ((hin 1 13 rfl).trans (congrArg some (show uu 1 = .int .i64 0 from hd 1 (by decide) (by kernel_rfl))))) (fun _ => by kernel_rfl) (hK _ _ hJ rfl veL_same)⟩
 clear hM
 intro uu W3 hJm hd
 have e_0 : uu 0 = .int .i64 0 := hd 0 (by decide)
 have e_1 : uu 1 = .int .i64 0 := hd 1 (by decide)
 have e_2 : uu 2 = .func (.func k) #[] caps := hd 2 (by decide)
 have e_3 : uu 3 = .int .i64 0 := hd 3 (by decide)
 have e_4 : uu 4 = .int .i64 0 := hd 4 (by decide)
 have e_5 : uu 5 = .agg (cS r.a.x) := hd 5 (by decide)
 have e_6 : uu 6 = .pointer (some ⟨bk2, 0, none⟩) := hd 6 (by decide)
 have e_7 : uu 7 = .pointer (some ⟨bk2, 0, none⟩) := hd 7 (by decide)
 clear hd
 simp only [layS, Act.put, zzC, zzD, zzE, Nat.zero_add, Nat.reduceAdd, List.drop_succ_cons, List.drop_zero, List.drop_nil, e_0, e_1, e_2, e_3, e_4, e_5, e_6, e_7]
 clear e_0 e_1 e_2 e_3 e_4 e_5 e_6 e_7
 have hJ3 := hJm.es
 clear hJm
 go_wp2_with (refine stop_store 23 (.tmp 19) (.tmp 17) 0 bk2 0 (cT zT) 27 3 (cS r.a.x).toList (cT ⟨⟨r.a.x, zS, zS⟩, zV, zV⟩) [(bk2, (cT ⟨⟨r.a.x, zS, zS⟩, zV, zV⟩), 27), (bk1, (cT zT), 27)] rfl rfl rfl rfl sz23 hJ3 rfl (by kernel_rfl) (zzF (by kernel_rfl)) (by kernel_rfl) (by kernel_rfl) (by kernel_rfl) (fun W4 hJ4 => ?_))
 clear hJ3
 unfold Stop
 try simp only [Act.put, zzC, zzD, zzE]
 go_wp2
 rw [rounds_succ]
 go_wp2
 obtain ⟨m8_4, hm⟩ : ∃ m, m = W4.heap.size := ⟨_, rfl⟩
 have hM := hJ4.em
 rw [← hm] at hM
 clear hm hJ4
 refine wp_region_z 8 [some 12, some 13, some 14, some 15, some 16, some 17, some 18, some 19] (veL m8_4 [.eq (.int .i64 0), .eq (.int .i64 1), .eq (.func (.func k) #[] caps), .eq (.int .i64 0), .eq (.int .i64 1), .eq (.agg (cS r.a.y)), .eq (.pointer (some ⟨bk2, 0, none⟩)), .eq (.pointer (some ⟨bk2, 3, none⟩))]) (Em w m8_4 [(bk2, (cT ⟨⟨r.a.x, zS, zS⟩, zV, zV⟩), 27), (bk1, (cT zT), 27)]) (by kernel_rfl) (by kernel_rfl) (by rfl) (by decide) (by rfl) hM ?_ ?_
 ·
  intro i hl hi uu ww aa hJ hd hev hin
  clear hM
  obtain rfl | rfl | rfl | rfl | rfl | rfl | rfl | rfl : i = 0 ∨ i = 1 ∨ i = 2 ∨ i = 3 ∨ i = 4 ∨ i = 5 ∨ i = 6 ∨ i = 7 := by omega
  ·
   exact .inr ⟨rfl, fun K' hK => wp_move (.tmp 4) rfl (eval_tmp ((hev 4 (by decide)).trans rfl)) (hK _ _ hJ rfl veL_same)⟩
  ·
   exact .inr ⟨rfl, fun K' hK => wp_move (.tmp 5) rfl (eval_tmp ((hev 5 (by decide)).trans rfl)) (hK _ _ hJ rfl veL_same)⟩
  ·
   exact .inr ⟨rfl, fun K' hK => wp_move (.tmp 0) rfl (eval_tmp ((hev 0 (by decide)).trans rfl)) (hK _ _ hJ rfl veL_same)⟩
  ·
   exact .inr ⟨rfl, fun K' hK => wp_move (.tmp 4) rfl (eval_tmp ((hev 4 (by decide)).trans rfl)) (hK _ _ hJ rfl veL_same)⟩
  ·
   exact .inr ⟨rfl, fun K' hK => wp_move (.tmp 5) rfl (eval_tmp ((hev 5 (by decide)).trans rfl)) (hK _ _ hJ rfl veL_same)⟩
  ·
   exact .inr ⟨rfl, fun K' hK => wp_callv (.tmp 14) #[.tmp 15, .tmp 16] _ k caps #[.int .i64 0, .int .i64 1] (va 0 1) rfl (eval_tmp ((hin 2 14 rfl).trans (congrArg some (show uu 2 = .func (.func k) #[] caps from hd 2 (by decide) (by kernel_rfl))))) (map2 (eval_tmp ((hin 3 15 rfl).trans (congrArg some (show uu 3 = .int .i64 0 from hd 3 (by decide) (by kernel_rfl))))) (eval_tmp ((hin 4 16 rfl).trans (congrArg some (show uu 4 = .int .i64 1 from hd 4 (by decide) (by kernel_rfl)))))) (hva 0 1) hk (H01.out ww hJ.es.below) (fun _ hB => (hK _ _ (hJ.later hB) rfl (veL_later hB)))⟩
  ·
   exact .inr ⟨rfl, fun K' hK => wp_ixa 27 (.tmp 3) (.tmp 12) rfl (eval_tmp ((hev 3 (by decide)).trans rfl)) (eval_tmp ((hin 0 12 rfl).trans (congrArg some (show uu 0 = .int .i64 0 from hd 0 (by decide) (by kernel_rfl))))) (fun _ => by kernel_rfl) (hK _ _ hJ rfl veL_same)⟩
  ·
   exact .inr ⟨rfl, fun K' hK => wp_ixa 25 (.tmp 18) (.tmp 13) rfl (eval_tmp ((hin 6 18 rfl).trans (congrArg some (show uu 6 = .pointer (some ⟨bk2, 0, none⟩) from hd 6 (by decide) (by kernel_rfl))))) (eval_tmp ((hin 1 13 rfl).trans (congrArg some (show uu 1 = .int .i64 1 from hd 1 (by decide) (by kernel_rfl))))) (fun _ => by kernel_rfl) (hK _ _ hJ rfl veL_same)⟩
 clear hM
 intro uu W5 hJm hd
 have e_0 : uu 0 = .int .i64 0 := hd 0 (by decide)
 have e_1 : uu 1 = .int .i64 1 := hd 1 (by decide)
 have e_2 : uu 2 = .func (.func k) #[] caps := hd 2 (by decide)
 have e_3 : uu 3 = .int .i64 0 := hd 3 (by decide)
 have e_4 : uu 4 = .int .i64 1 := hd 4 (by decide)
 have e_5 : uu 5 = .agg (cS r.a.y) := hd 5 (by decide)
 have e_6 : uu 6 = .pointer (some ⟨bk2, 0, none⟩) := hd 6 (by decide)
 have e_7 : uu 7 = .pointer (some ⟨bk2, 3, none⟩) := hd 7 (by decide)
 clear hd
 simp only [layS, Act.put, zzC, zzD, zzE, Nat.zero_add, Nat.reduceAdd, List.drop_succ_cons, List.drop_zero, List.drop_nil, e_0, e_1, e_2, e_3, e_4, e_5, e_6, e_7]
 clear e_0 e_1 e_2 e_3 e_4 e_5 e_6 e_7
 have hJ5 := hJm.es
 clear hJm
 go_wp2_with (refine stop_store 23 (.tmp 19) (.tmp 17) 0 bk2 3 (cT ⟨⟨r.a.x, zS, zS⟩, zV, zV⟩) 27 3 (cS r.a.y).toList (cT ⟨⟨r.a.x, r.a.y, zS⟩, zV, zV⟩) [(bk2, (cT ⟨⟨r.a.x, r.a.y, zS⟩, zV, zV⟩), 27), (bk1, (cT zT), 27)] rfl rfl rfl rfl sz23 hJ5 rfl (by kernel_rfl) (zzF (by kernel_rfl)) (by kernel_rfl) (by kernel_rfl) (by kernel_rfl) (fun W6 hJ6 => ?_))
 clear hJ5
 unfold Stop
 try simp only [Act.put, zzC, zzD, zzE]
 go_wp2
 rw [rounds_succ]
 go_wp2
 obtain ⟨m8_6, hm⟩ : ∃ m, m = W6.heap.size := ⟨_, rfl⟩
 have hM := hJ6.em
 rw [← hm] at hM
 clear hm hJ6
 refine wp_region_z 8 [some 12, some 13, some 14, some 15, some 16, some 17, some 18, some 19] (veL m8_6 [.eq (.int .i64 0), .eq (.int .i64 2), .eq (.func (.func k) #[] caps), .eq (.int .i64 0), .eq (.int .i64 2), .eq (.agg (cS r.a.z)), .eq (.pointer (some ⟨bk2, 0, none⟩)), .eq (.pointer (some ⟨bk2, 6, none⟩))]) (Em w m8_6 [(bk2, (cT ⟨⟨r.a.x, r.a.y, zS⟩, zV, zV⟩), 27), (bk1, (cT zT), 27)]) (by kernel_rfl) (by kernel_rfl) (by rfl) (by decide) (by rfl) hM ?_ ?_
 ·
  intro i hl hi uu ww aa hJ hd hev hin
  clear hM
  obtain rfl | rfl | rfl | rfl | rfl | rfl | rfl | rfl : i = 0 ∨ i = 1 ∨ i = 2 ∨ i = 3 ∨ i = 4 ∨ i = 5 ∨ i = 6 ∨ i = 7 := by omega
  ·
   exact .inr ⟨rfl, fun K' hK => wp_move (.tmp 4) rfl (eval_tmp ((hev 4 (by decide)).trans rfl)) (hK _ _ hJ rfl veL_same)⟩
  ·
   exact .inr ⟨rfl, fun K' hK => wp_move (.tmp 5) rfl (eval_tmp ((hev 5 (by decide)).trans rfl)) (hK _ _ hJ rfl veL_same)⟩
  ·
   exact .inr ⟨rfl, fun K' hK => wp_move (.tmp 0) rfl (eval_tmp ((hev 0 (by decide)).trans rfl)) (hK _ _ hJ rfl veL_same)⟩
  ·
   exact .inr ⟨rfl, fun K' hK => wp_move (.tmp 4) rfl (eval_tmp ((hev 4 (by decide)).trans rfl)) (hK _ _ hJ rfl veL_same)⟩
  ·
   exact .inr ⟨rfl, fun K' hK => wp_move (.tmp 5) rfl (eval_tmp ((hev 5 (by decide)).trans rfl)) (hK _ _ hJ rfl veL_same)⟩
  ·
   exact .inr ⟨rfl, fun K' hK => wp_callv (.tmp 14) #[.tmp 15, .tmp 16] _ k caps #[.int .i64 0, .int .i64 2] (va 0 2) rfl (eval_tmp ((hin 2 14 rfl).trans (congrArg some (show uu 2 = .func (.func k) #[] caps from hd 2 (by decide) (by kernel_rfl))))) (map2 (eval_tmp ((hin 3 15 rfl).trans (congrArg some (show uu 3 = .int .i64 0 from hd 3 (by decide) (by kernel_rfl))))) (eval_tmp ((hin 4 16 rfl).trans (congrArg some (show uu 4 = .int .i64 2 from hd 4 (by decide) (by kernel_rfl)))))) (hva 0 2) hk (H02.out ww hJ.es.below) (fun _ hB => (hK _ _ (hJ.later hB) rfl (veL_later hB)))⟩
  ·
   exact .inr ⟨rfl, fun K' hK => wp_ixa 27 (.tmp 3) (.tmp 12) rfl (eval_tmp ((hev 3 (by decide)).trans rfl)) (eval_tmp ((hin 0 12 rfl).trans (congrArg some (show uu 0 = .int .i64 0 from hd 0 (by decide) (by kernel_rfl))))) (fun _ => by kernel_rfl) (hK _ _ hJ rfl veL_same)⟩
  ·
   exact .inr ⟨rfl, fun K' hK => wp_ixa 25 (.tmp 18) (.tmp 13) rfl (eval_tmp ((hin 6 18 rfl).trans (congrArg some (show uu 6 = .pointer (some ⟨bk2, 0, none⟩) from hd 6 (by decide) (by kernel_rfl))))) (eval_tmp ((hin 1 13 rfl).trans (congrArg some (show uu 1 = .int .i64 2 from hd 1 (by decide) (by kernel_rfl))))) (fun _ => by kernel_rfl) (hK _ _ hJ rfl veL_same)⟩
 clear hM
 intro uu W7 hJm hd
 have e_0 : uu 0 = .int .i64 0 := hd 0 (by decide)
 have e_1 : uu 1 = .int .i64 2 := hd 1 (by decide)
 have e_2 : uu 2 = .func (.func k) #[] caps := hd 2 (by decide)
 have e_3 : uu 3 = .int .i64 0 := hd 3 (by decide)
 have e_4 : uu 4 = .int .i64 2 := hd 4 (by decide)
 have e_5 : uu 5 = .agg (cS r.a.z) := hd 5 (by decide)
 have e_6 : uu 6 = .pointer (some ⟨bk2, 0, none⟩) := hd 6 (by decide)
 have e_7 : uu 7 = .pointer (some ⟨bk2, 6, none⟩) := hd 7 (by decide)
 clear hd
 simp only [layS, Act.put, zzC, zzD, zzE, Nat.zero_add, Nat.reduceAdd, List.drop_succ_cons, List.drop_zero, List.drop_nil, e_0, e_1, e_2, e_3, e_4, e_5, e_6, e_7]
 clear e_0 e_1 e_2 e_3 e_4 e_5 e_6 e_7
 have hJ7 := hJm.es
 clear hJm
 go_wp2_with (refine stop_store 23 (.tmp 19) (.tmp 17) 0 bk2 6 (cT ⟨⟨r.a.x, r.a.y, zS⟩, zV, zV⟩) 27 3 (cS r.a.z).toList (cT ⟨r.a, zV, zV⟩) [(bk2, (cT ⟨r.a, zV, zV⟩), 27), (bk1, (cT zT), 27)] rfl rfl rfl rfl sz23 hJ7 rfl (by kernel_rfl) (zzF (by kernel_rfl)) (by kernel_rfl) (by kernel_rfl) (by kernel_rfl) (fun W8 hJ8 => ?_))
 clear hJ7
 unfold Stop
 try simp only [Act.put, zzC, zzD, zzE]
 go_wp2
 rw [rounds_succ]
 go_wp2
 rw [rounds_succ]
 go_wp2
 refine wp_loop_rounds 4 ?_
 rw [rounds_succ]
 go_wp2
 obtain ⟨m8_8, hm⟩ : ∃ m, m = W8.heap.size := ⟨_, rfl⟩
 have hM := hJ8.em
 rw [← hm] at hM
 clear hm hJ8
 refine wp_region_z 8 [some 12, some 13, some 14, some 15, some 16, some 17, some 18, some 19] (veL m8_8 [.eq (.int .i64 1), .eq (.int .i64 0), .eq (.func (.func k) #[] caps), .eq (.int .i64 1), .eq (.int .i64 0), .eq (.agg (cS r.b.x)), .eq (.pointer (some ⟨bk2, 9, none⟩)), .eq (.pointer (some ⟨bk2, 9, none⟩))]) (Em w m8_8 [(bk2, (cT ⟨r.a, zV, zV⟩), 27), (bk1, (cT zT), 27)]) (by kernel_rfl) (by kernel_rfl) (by rfl) (by decide) (by rfl) hM ?_ ?_
 ·
  intro i hl hi uu ww aa hJ hd hev hin
  clear hM
  obtain rfl | rfl | rfl | rfl | rfl | rfl | rfl | rfl : i = 0 ∨ i = 1 ∨ i = 2 ∨ i = 3 ∨ i = 4 ∨ i = 5 ∨ i = 6 ∨ i = 7 := by omega
  ·
   exact .inr ⟨rfl, fun K' hK => wp_move (.tmp 4) rfl (eval_tmp ((hev 4 (by decide)).trans rfl)) (hK _ _ hJ rfl veL_same)⟩
  ·
   exact .inr ⟨rfl, fun K' hK => wp_move (.tmp 5) rfl (eval_tmp ((hev 5 (by decide)).trans rfl)) (hK _ _ hJ rfl veL_same)⟩
  ·
   exact .inr ⟨rfl, fun K' hK => wp_move (.tmp 0) rfl (eval_tmp ((hev 0 (by decide)).trans rfl)) (hK _ _ hJ rfl veL_same)⟩
  ·
   exact .inr ⟨rfl, fun K' hK => wp_move (.tmp 4) rfl (eval_tmp ((hev 4 (by decide)).trans rfl)) (hK _ _ hJ rfl veL_same)⟩
  ·
   exact .inr ⟨rfl, fun K' hK => wp_move (.tmp 5) rfl (eval_tmp ((hev 5 (by decide)).trans rfl)) (hK _ _ hJ rfl veL_same)⟩
  ·
   exact .inr ⟨rfl, fun K' hK => wp_callv (.tmp 14) #[.tmp 15, .tmp 16] _ k caps #[.int .i64 1, .int .i64 0] (va 1 0) rfl (eval_tmp ((hin 2 14 rfl).trans (congrArg some (show uu 2 = .func (.func k) #[] caps from hd 2 (by decide) (by kernel_rfl))))) (map2 (eval_tmp ((hin 3 15 rfl).trans (congrArg some (show uu 3 = .int .i64 1 from hd 3 (by decide) (by kernel_rfl))))) (eval_tmp ((hin 4 16 rfl).trans (congrArg some (show uu 4 = .int .i64 0 from hd 4 (by decide) (by kernel_rfl)))))) (hva 1 0) hk (H10.out ww hJ.es.below) (fun _ hB => (hK _ _ (hJ.later hB) rfl (veL_later hB)))⟩
  ·
   exact .inr ⟨rfl, fun K' hK => wp_ixa 27 (.tmp 3) (.tmp 12) rfl (eval_tmp ((hev 3 (by decide)).trans rfl)) (eval_tmp ((hin 0 12 rfl).trans (congrArg some (show uu 0 = .int .i64 1 from hd 0 (by decide) (by kernel_rfl))))) (fun _ => by kernel_rfl) (hK _ _ hJ rfl veL_same)⟩
  ·
   exact .inr ⟨rfl, fun K' hK => wp_ixa 25 (.tmp 18) (.tmp 13) rfl (eval_tmp ((hin 6 18 rfl).trans (congrArg some (show uu 6 = .pointer (some ⟨bk2, 9, none⟩) from hd 6 (by decide) (by kernel_rfl))))) (eval_tmp ((hin 1 13 rfl).trans (congrArg some (show uu 1 = .int .i64 0 from hd 1 (by decide) (by kernel_rfl))))) (fun _ => by kernel_rfl) (hK _ _ hJ rfl veL_same)⟩
 clear hM
 intro uu W9 hJm hd
 have e_0 : uu 0 = .int .i64 1 := hd 0 (by decide)
 have e_1 : uu 1 = .int .i64 0 := hd 1 (by decide)
 have e_2 : uu 2 = .func (.func k) #[] caps := hd 2 (by decide)
 have e_3 : uu 3 = .int .i64 1 := hd 3 (by decide)
 have e_4 : uu 4 = .int .i64 0 := hd 4 (by decide)
 have e_5 : uu 5 = .agg (cS r.b.x) := hd 5 (by decide)
 have e_6 : uu 6 = .pointer (some ⟨bk2, 9, none⟩) := hd 6 (by decide)
 have e_7 : uu 7 = .pointer (some ⟨bk2, 9, none⟩) := hd 7 (by decide)
 clear hd
 simp only [layS, Act.put, zzC, zzD, zzE, Nat.zero_add, Nat.reduceAdd, List.drop_succ_cons, List.drop_zero, List.drop_nil, e_0, e_1, e_2, e_3, e_4, e_5, e_6, e_7]
 clear e_0 e_1 e_2 e_3 e_4 e_5 e_6 e_7
 have hJ9 := hJm.es
 clear hJm
 go_wp2_with (refine stop_store 23 (.tmp 19) (.tmp 17) 0 bk2 9 (cT ⟨r.a, zV, zV⟩) 27 3 (cS r.b.x).toList (cT ⟨r.a, ⟨r.b.x, zS, zS⟩, zV⟩) [(bk2, (cT ⟨r.a, ⟨r.b.x, zS, zS⟩, zV⟩), 27), (bk1, (cT zT), 27)] rfl rfl rfl rfl sz23 hJ9 rfl (by kernel_rfl) (zzF (by kernel_rfl)) (by kernel_rfl) (by kernel_rfl) (by kernel_rfl) (fun W10 hJ10 => ?_))
 clear hJ9
 unfold Stop
 try simp only [Act.put, zzC, zzD, zzE]
 go_wp2
 rw [rounds_succ]
 go_wp2
 obtain ⟨m8_10, hm⟩ : ∃ m, m = W10.heap.size := ⟨_, rfl⟩
 have hM := hJ10.em
 rw [← hm] at hM
 clear hm hJ10
 refine wp_region_z 8 [some 12, some 13, some 14, some 15, some 16, some 17, some 18, some 19] (veL m8_10 [.eq (.int .i64 1), .eq (.int .i64 1), .eq (.func (.func k) #[] caps), .eq (.int .i64 1), .eq (.int .i64 1), .eq (.agg (cS r.b.y)), .eq (.pointer (some ⟨bk2, 9, none⟩)), .eq (.pointer (some ⟨bk2, 12, none⟩))]) (Em w m8_10 [(bk2, (cT ⟨r.a, ⟨r.b.x, zS, zS⟩, zV⟩), 27), (bk1, (cT zT), 27)]) (by kernel_rfl) (by kernel_rfl) (by rfl) (by decide) (by rfl) hM ?_ ?_
 ·
  intro i hl hi uu ww aa hJ hd hev hin
  clear hM
  obtain rfl | rfl | rfl | rfl | rfl | rfl | rfl | rfl : i = 0 ∨ i = 1 ∨ i = 2 ∨ i = 3 ∨ i = 4 ∨ i = 5 ∨ i = 6 ∨ i = 7 := by omega
  ·
   exact .inr ⟨rfl, fun K' hK => wp_move (.tmp 4) rfl (eval_tmp ((hev 4 (by decide)).trans rfl)) (hK _ _ hJ rfl veL_same)⟩
  ·
   exact .inr ⟨rfl, fun K' hK => wp_move (.tmp 5) rfl (eval_tmp ((hev 5 (by decide)).trans rfl)) (hK _ _ hJ rfl veL_same)⟩
  ·
   exact .inr ⟨rfl, fun K' hK => wp_move (.tmp 0) rfl (eval_tmp ((hev 0 (by decide)).trans rfl)) (hK _ _ hJ rfl veL_same)⟩
  ·
   exact .inr ⟨rfl, fun K' hK => wp_move (.tmp 4) rfl (eval_tmp ((hev 4 (by decide)).trans rfl)) (hK _ _ hJ rfl veL_same)⟩
  ·
   exact .inr ⟨rfl, fun K' hK => wp_move (.tmp 5) rfl (eval_tmp ((hev 5 (by decide)).trans rfl)) (hK _ _ hJ rfl veL_same)⟩
  ·
   exact .inr ⟨rfl, fun K' hK => wp_callv (.tmp 14) #[.tmp 15, .tmp 16] _ k caps #[.int .i64 1, .int .i64 1] (va 1 1) rfl (eval_tmp ((hin 2 14 rfl).trans (congrArg some (show uu 2 = .func (.func k) #[] caps from hd 2 (by decide) (by kernel_rfl))))) (map2 (eval_tmp ((hin 3 15 rfl).trans (congrArg some (show uu 3 = .int .i64 1 from hd 3 (by decide) (by kernel_rfl))))) (eval_tmp ((hin 4 16 rfl).trans (congrArg some (show uu 4 = .int .i64 1 from hd 4 (by decide) (by kernel_rfl)))))) (hva 1 1) hk (H11.out ww hJ.es.below) (fun _ hB => (hK _ _ (hJ.later hB) rfl (veL_later hB)))⟩
  ·
   exact .inr ⟨rfl, fun K' hK => wp_ixa 27 (.tmp 3) (.tmp 12) rfl (eval_tmp ((hev 3 (by decide)).trans rfl)) (eval_tmp ((hin 0 12 rfl).trans (congrArg some (show uu 0 = .int .i64 1 from hd 0 (by decide) (by kernel_rfl))))) (fun _ => by kernel_rfl) (hK _ _ hJ rfl veL_same)⟩
  ·
   exact .inr ⟨rfl, fun K' hK => wp_ixa 25 (.tmp 18) (.tmp 13) rfl (eval_tmp ((hin 6 18 rfl).trans (congrArg some (show uu 6 = .pointer (some ⟨bk2, 9, none⟩) from hd 6 (by decide) (by kernel_rfl))))) (eval_tmp ((hin 1 13 rfl).trans (congrArg some (show uu 1 = .int .i64 1 from hd 1 (by decide) (by kernel_rfl))))) (fun _ => by kernel_rfl) (hK _ _ hJ rfl veL_same)⟩
 clear hM
 intro uu W11 hJm hd
 have e_0 : uu 0 = .int .i64 1 := hd 0 (by decide)
 have e_1 : uu 1 = .int .i64 1 := hd 1 (by decide)
 have e_2 : uu 2 = .func (.func k) #[] caps := hd 2 (by decide)
 have e_3 : uu 3 = .int .i64 1 := hd 3 (by decide)
 have e_4 : uu 4 = .int .i64 1 := hd 4 (by decide)
 have e_5 : uu 5 = .agg (cS r.b.y) := hd 5 (by decide)
 have e_6 : uu 6 = .pointer (some ⟨bk2, 9, none⟩) := hd 6 (by decide)
 have e_7 : uu 7 = .pointer (some ⟨bk2, 12, none⟩) := hd 7 (by decide)
 clear hd
 simp only [layS, Act.put, zzC, zzD, zzE, Nat.zero_add, Nat.reduceAdd, List.drop_succ_cons, List.drop_zero, List.drop_nil, e_0, e_1, e_2, e_3, e_4, e_5, e_6, e_7]
 clear e_0 e_1 e_2 e_3 e_4 e_5 e_6 e_7
 have hJ11 := hJm.es
 clear hJm
 go_wp2_with (refine stop_store 23 (.tmp 19) (.tmp 17) 0 bk2 12 (cT ⟨r.a, ⟨r.b.x, zS, zS⟩, zV⟩) 27 3 (cS r.b.y).toList (cT ⟨r.a, ⟨r.b.x, r.b.y, zS⟩, zV⟩) [(bk2, (cT ⟨r.a, ⟨r.b.x, r.b.y, zS⟩, zV⟩), 27), (bk1, (cT zT), 27)] rfl rfl rfl rfl sz23 hJ11 rfl (by kernel_rfl) (zzF (by kernel_rfl)) (by kernel_rfl) (by kernel_rfl) (by kernel_rfl) (fun W12 hJ12 => ?_))
 clear hJ11
 unfold Stop
 try simp only [Act.put, zzC, zzD, zzE]
 go_wp2
 rw [rounds_succ]
 go_wp2
 obtain ⟨m8_12, hm⟩ : ∃ m, m = W12.heap.size := ⟨_, rfl⟩
 have hM := hJ12.em
 rw [← hm] at hM
 clear hm hJ12
 refine wp_region_z 8 [some 12, some 13, some 14, some 15, some 16, some 17, some 18, some 19] (veL m8_12 [.eq (.int .i64 1), .eq (.int .i64 2), .eq (.func (.func k) #[] caps), .eq (.int .i64 1), .eq (.int .i64 2), .eq (.agg (cS r.b.z)), .eq (.pointer (some ⟨bk2, 9, none⟩)), .eq (.pointer (some ⟨bk2, 15, none⟩))]) (Em w m8_12 [(bk2, (cT ⟨r.a, ⟨r.b.x, r.b.y, zS⟩, zV⟩), 27), (bk1, (cT zT), 27)]) (by kernel_rfl) (by kernel_rfl) (by rfl) (by decide) (by rfl) hM ?_ ?_
 ·
  intro i hl hi uu ww aa hJ hd hev hin
  clear hM
  obtain rfl | rfl | rfl | rfl | rfl | rfl | rfl | rfl : i = 0 ∨ i = 1 ∨ i = 2 ∨ i = 3 ∨ i = 4 ∨ i = 5 ∨ i = 6 ∨ i = 7 := by omega
  ·
   exact .inr ⟨rfl, fun K' hK => wp_move (.tmp 4) rfl (eval_tmp ((hev 4 (by decide)).trans rfl)) (hK _ _ hJ rfl veL_same)⟩
  ·
   exact .inr ⟨rfl, fun K' hK => wp_move (.tmp 5) rfl (eval_tmp ((hev 5 (by decide)).trans rfl)) (hK _ _ hJ rfl veL_same)⟩
  ·
   exact .inr ⟨rfl, fun K' hK => wp_move (.tmp 0) rfl (eval_tmp ((hev 0 (by decide)).trans rfl)) (hK _ _ hJ rfl veL_same)⟩
  ·
   exact .inr ⟨rfl, fun K' hK => wp_move (.tmp 4) rfl (eval_tmp ((hev 4 (by decide)).trans rfl)) (hK _ _ hJ rfl veL_same)⟩
  ·
   exact .inr ⟨rfl, fun K' hK => wp_move (.tmp 5) rfl (eval_tmp ((hev 5 (by decide)).trans rfl)) (hK _ _ hJ rfl veL_same)⟩
  ·
   exact .inr ⟨rfl, fun K' hK => wp_callv (.tmp 14) #[.tmp 15, .tmp 16] _ k caps #[.int .i64 1, .int .i64 2] (va 1 2) rfl (eval_tmp ((hin 2 14 rfl).trans (congrArg some (show uu 2 = .func (.func k) #[] caps from hd 2 (by decide) (by kernel_rfl))))) (map2 (eval_tmp ((hin 3 15 rfl).trans (congrArg some (show uu 3 = .int .i64 1 from hd 3 (by decide) (by kernel_rfl))))) (eval_tmp ((hin 4 16 rfl).trans (congrArg some (show uu 4 = .int .i64 2 from hd 4 (by decide) (by kernel_rfl)))))) (hva 1 2) hk (H12.out ww hJ.es.below) (fun _ hB => (hK _ _ (hJ.later hB) rfl (veL_later hB)))⟩
  ·
   exact .inr ⟨rfl, fun K' hK => wp_ixa 27 (.tmp 3) (.tmp 12) rfl (eval_tmp ((hev 3 (by decide)).trans rfl)) (eval_tmp ((hin 0 12 rfl).trans (congrArg some (show uu 0 = .int .i64 1 from hd 0 (by decide) (by kernel_rfl))))) (fun _ => by kernel_rfl) (hK _ _ hJ rfl veL_same)⟩
  ·
   exact .inr ⟨rfl, fun K' hK => wp_ixa 25 (.tmp 18) (.tmp 13) rfl (eval_tmp ((hin 6 18 rfl).trans (congrArg some (show uu 6 = .pointer (some ⟨bk2, 9, none⟩) from hd 6 (by decide) (by kernel_rfl))))) (eval_tmp ((hin 1 13 rfl).trans (congrArg some (show uu 1 = .int .i64 2 from hd 1 (by decide) (by kernel_rfl))))) (fun _ => by kernel_rfl) (hK _ _ hJ rfl veL_same)⟩
 clear hM
 intro uu W13 hJm hd
 have e_0 : uu 0 = .int .i64 1 := hd 0 (by decide)
 have e_1 : uu 1 = .int .i64 2 := hd 1 (by decide)
 have e_2 : uu 2 = .func (.func k) #[] caps := hd 2 (by decide)
 have e_3 : uu 3 = .int .i64 1 := hd 3 (by decide)
 have e_4 : uu 4 = .int .i64 2 := hd 4 (by decide)
 have e_5 : uu 5 = .agg (cS r.b.z) := hd 5 (by decide)
 have e_6 : uu 6 = .pointer (some ⟨bk2, 9, none⟩) := hd 6 (by decide)
 have e_7 : uu 7 = .pointer (some ⟨bk2, 15, none⟩) := hd 7 (by decide)
 clear hd
 simp only [layS, Act.put, zzC, zzD, zzE, Nat.zero_add, Nat.reduceAdd, List.drop_succ_cons, List.drop_zero, List.drop_nil, e_0, e_1, e_2, e_3, e_4, e_5, e_6, e_7]
 clear e_0 e_1 e_2 e_3 e_4 e_5 e_6 e_7
 have hJ13 := hJm.es
 clear hJm
 go_wp2_with (refine stop_store 23 (.tmp 19) (.tmp 17) 0 bk2 15 (cT ⟨r.a, ⟨r.b.x, r.b.y, zS⟩, zV⟩) 27 3 (cS r.b.z).toList (cT ⟨r.a, r.b, zV⟩) [(bk2, (cT ⟨r.a, r.b, zV⟩), 27), (bk1, (cT zT), 27)] rfl rfl rfl rfl sz23 hJ13 rfl (by kernel_rfl) (zzF (by kernel_rfl)) (by kernel_rfl) (by kernel_rfl) (by kernel_rfl) (fun W14 hJ14 => ?_))
 clear hJ13
 unfold Stop
 try simp only [Act.put, zzC, zzD, zzE]
 go_wp2
 rw [rounds_succ]
 go_wp2
 rw [rounds_succ]
 go_wp2
 refine wp_loop_rounds 4 ?_
 rw [rounds_succ]
 go_wp2
 obtain ⟨m8_14, hm⟩ : ∃ m, m = W14.heap.size := ⟨_, rfl⟩
 have hM := hJ14.em
 rw [← hm] at hM
 clear hm hJ14
 refine wp_region_z 8 [some 12, some 13, some 14, some 15, some 16, some 17, some 18, some 19] (veL m8_14 [.eq (.int .i64 2), .eq (.int .i64 0), .eq (.func (.func k) #[] caps), .eq (.int .i64 2), .eq (.int .i64 0), .eq (.agg (cS r.c.x)), .eq (.pointer (some ⟨bk2, 18, none⟩)), .eq (.pointer (some ⟨bk2, 18, none⟩))]) (Em w m8_14 [(bk2, (cT ⟨r.a, r.b, zV⟩), 27), (bk1, (cT zT), 27)]) (by kernel_rfl) (by kernel_rfl) (by rfl) (by decide) (by rfl) hM ?_ ?_
 ·
  intro i hl hi uu ww aa hJ hd hev hin
  clear hM
  obtain rfl | rfl | rfl | rfl | rfl | rfl | rfl | rfl : i = 0 ∨ i = 1 ∨ i = 2 ∨ i = 3 ∨ i = 4 ∨ i = 5 ∨ i = 6 ∨ i = 7 := by omega
  ·
   exact .inr ⟨rfl, fun K' hK => wp_move (.tmp 4) rfl (eval_tmp ((hev 4 (by decide)).trans rfl)) (hK _ _ hJ rfl veL_same)⟩
  ·
   exact .inr ⟨rfl, fun K' hK => wp_move (.tmp 5) rfl (eval_tmp ((hev 5 (by decide)).trans rfl)) (hK _ _ hJ rfl veL_same)⟩
  ·
   exact .inr ⟨rfl, fun K' hK => wp_move (.tmp 0) rfl (eval_tmp ((hev 0 (by decide)).trans rfl)) (hK _ _ hJ rfl veL_same)⟩
  ·
   exact .inr ⟨rfl, fun K' hK => wp_move (.tmp 4) rfl (eval_tmp ((hev 4 (by decide)).trans rfl)) (hK _ _ hJ rfl veL_same)⟩
  ·
   exact .inr ⟨rfl, fun K' hK => wp_move (.tmp 5) rfl (eval_tmp ((hev 5 (by decide)).trans rfl)) (hK _ _ hJ rfl veL_same)⟩
  ·
   exact .inr ⟨rfl, fun K' hK => wp_callv (.tmp 14) #[.tmp 15, .tmp 16] _ k caps #[.int .i64 2, .int .i64 0] (va 2 0) rfl (eval_tmp ((hin 2 14 rfl).trans (congrArg some (show uu 2 = .func (.func k) #[] caps from hd 2 (by decide) (by kernel_rfl))))) (map2 (eval_tmp ((hin 3 15 rfl).trans (congrArg some (show uu 3 = .int .i64 2 from hd 3 (by decide) (by kernel_rfl))))) (eval_tmp ((hin 4 16 rfl).trans (congrArg some (show uu 4 = .int .i64 0 from hd 4 (by decide) (by kernel_rfl)))))) (hva 2 0) hk (H20.out ww hJ.es.below) (fun _ hB => (hK _ _ (hJ.later hB) rfl (veL_later hB)))⟩
  ·
   exact .inr ⟨rfl, fun K' hK => wp_ixa 27 (.tmp 3) (.tmp 12) rfl (eval_tmp ((hev 3 (by decide)).trans rfl)) (eval_tmp ((hin 0 12 rfl).trans (congrArg some (show uu 0 = .int .i64 2 from hd 0 (by decide) (by kernel_rfl))))) (fun _ => by kernel_rfl) (hK _ _ hJ rfl veL_same)⟩
  ·
   exact .inr ⟨rfl, fun K' hK => wp_ixa 25 (.tmp 18) (.tmp 13) rfl (eval_tmp ((hin 6 18 rfl).trans (congrArg some (show uu 6 = .pointer (some ⟨bk2, 18, none⟩) from hd 6 (by decide) (by kernel_rfl))))) (eval_tmp ((hin 1 13 rfl).trans (congrArg some (show uu 1 = .int .i64 0 from hd 1 (by decide) (by kernel_rfl))))) (fun _ => by kernel_rfl) (hK _ _ hJ rfl veL_same)⟩
 clear hM
 intro uu W15 hJm hd
 have e_0 : uu 0 = .int .i64 2 := hd 0 (by decide)
 have e_1 : uu 1 = .int .i64 0 := hd 1 (by decide)
 have e_2 : uu 2 = .func (.func k) #[] caps := hd 2 (by decide)
 have e_3 : uu 3 = .int .i64 2 := hd 3 (by decide)
 have e_4 : uu 4 = .int .i64 0 := hd 4 (by decide)
 have e_5 : uu 5 = .agg (cS r.c.x) := hd 5 (by decide)
 have e_6 : uu 6 = .pointer (some ⟨bk2, 18, none⟩) := hd 6 (by decide)
 have e_7 : uu 7 = .pointer (some ⟨bk2, 18, none⟩) := hd 7 (by decide)
 clear hd
 simp only [layS, Act.put, zzC, zzD, zzE, Nat.zero_add, Nat.reduceAdd, List.drop_succ_cons, List.drop_zero, List.drop_nil, e_0, e_1, e_2, e_3, e_4, e_5, e_6, e_7]
 clear e_0 e_1 e_2 e_3 e_4 e_5 e_6 e_7
 have hJ15 := hJm.es
 clear hJm
 go_wp2_with (refine stop_store 23 (.tmp 19) (.tmp 17) 0 bk2 18 (cT ⟨r.a, r.b, zV⟩) 27 3 (cS r.c.x).toList (cT ⟨r.a, r.b, ⟨r.c.x, zS, zS⟩⟩) [(bk2, (cT ⟨r.a, r.b, ⟨r.c.x, zS, zS⟩⟩), 27), (bk1, (cT zT), 27)] rfl rfl rfl rfl sz23 hJ15 rfl (by kernel_rfl) (zzF (by kernel_rfl)) (by kernel_rfl) (by kernel_rfl) (by kernel_rfl) (fun W16 hJ16 => ?_))
 clear hJ15
 unfold Stop
 try simp only [Act.put, zzC, zzD, zzE]
 go_wp2
 rw [rounds_succ]
 go_wp2
 obtain ⟨m8_16, hm⟩ : ∃ m, m = W16.heap.size := ⟨_, rfl⟩
 have hM := hJ16.em
 rw [← hm] at hM
 clear hm hJ16
 refine wp_region_z 8 [some 12, some 13, some 14, some 15, some 16, some 17, some 18, some 19] (veL m8_16 [.eq (.int .i64 2), .eq (.int .i64 1), .eq (.func (.func k) #[] caps), .eq (.int .i64 2), .eq (.int .i64 1), .eq (.agg (cS r.c.y)), .eq (.pointer (some ⟨bk2, 18, none⟩)), .eq (.pointer (some ⟨bk2, 21, none⟩))]) (Em w m8_16 [(bk2, (cT ⟨r.a, r.b, ⟨r.c.x, zS, zS⟩⟩), 27), (bk1, (cT zT), 27)]) (by kernel_rfl) (by kernel_rfl) (by rfl) (by decide) (by rfl) hM ?_ ?_
 ·
  intro i hl hi uu ww aa hJ hd hev hin
  clear hM
  obtain rfl | rfl | rfl | rfl | rfl | rfl | rfl | rfl : i = 0 ∨ i = 1 ∨ i = 2 ∨ i = 3 ∨ i = 4 ∨ i = 5 ∨ i = 6 ∨ i = 7 := by omega
  ·
   exact .inr ⟨rfl, fun K' hK => wp_move (.tmp 4) rfl (eval_tmp ((hev 4 (by decide)).trans rfl)) (hK _ _ hJ rfl veL_same)⟩
  ·
   exact .inr ⟨rfl, fun K' hK => wp_move (.tmp 5) rfl (eval_tmp ((hev 5 (by decide)).trans rfl)) (hK _ _ hJ rfl veL_same)⟩
  ·
   exact .inr ⟨rfl, fun K' hK => wp_move (.tmp 0) rfl (eval_tmp ((hev 0 (by decide)).trans rfl)) (hK _ _ hJ rfl veL_same)⟩
  ·
   exact .inr ⟨rfl, fun K' hK => wp_move (.tmp 4) rfl (eval_tmp ((hev 4 (by decide)).trans rfl)) (hK _ _ hJ rfl veL_same)⟩
  ·
   exact .inr ⟨rfl, fun K' hK => wp_move (.tmp 5) rfl (eval_tmp ((hev 5 (by decide)).trans rfl)) (hK _ _ hJ rfl veL_same)⟩
  ·
   exact .inr ⟨rfl, fun K' hK => wp_callv (.tmp 14) #[.tmp 15, .tmp 16] _ k caps #[.int .i64 2, .int .i64 1] (va 2 1) rfl (eval_tmp ((hin 2 14 rfl).trans (congrArg some (show uu 2 = .func (.func k) #[] caps from hd 2 (by decide) (by kernel_rfl))))) (map2 (eval_tmp ((hin 3 15 rfl).trans (congrArg some (show uu 3 = .int .i64 2 from hd 3 (by decide) (by kernel_rfl))))) (eval_tmp ((hin 4 16 rfl).trans (congrArg some (show uu 4 = .int .i64 1 from hd 4 (by decide) (by kernel_rfl)))))) (hva 2 1) hk (H21.out ww hJ.es.below) (fun _ hB => (hK _ _ (hJ.later hB) rfl (veL_later hB)))⟩
  ·
   exact .inr ⟨rfl, fun K' hK => wp_ixa 27 (.tmp 3) (.tmp 12) rfl (eval_tmp ((hev 3 (by decide)).trans rfl)) (eval_tmp ((hin 0 12 rfl).trans (congrArg some (show uu 0 = .int .i64 2 from hd 0 (by decide) (by kernel_rfl))))) (fun _ => by kernel_rfl) (hK _ _ hJ rfl veL_same)⟩
  ·
   exact .inr ⟨rfl, fun K' hK => wp_ixa 25 (.tmp 18) (.tmp 13) rfl (eval_tmp ((hin 6 18 rfl).trans (congrArg some (show uu 6 = .pointer (some ⟨bk2, 18, none⟩) from hd 6 (by decide) (by kernel_rfl))))) (eval_tmp ((hin 1 13 rfl).trans (congrArg some (show uu 1 = .int .i64 1 from hd 1 (by decide) (by kernel_rfl))))) (fun _ => by kernel_rfl) (hK _ _ hJ rfl veL_same)⟩
 clear hM
 intro uu W17 hJm hd
 have e_0 : uu 0 = .int .i64 2 := hd 0 (by decide)
 have e_1 : uu 1 = .int .i64 1 := hd 1 (by decide)
 have e_2 : uu 2 = .func (.func k) #[] caps := hd 2 (by decide)
 have e_3 : uu 3 = .int .i64 2 := hd 3 (by decide)
 have e_4 : uu 4 = .int .i64 1 := hd 4 (by decide)
 have e_5 : uu 5 = .agg (cS r.c.y) := hd 5 (by decide)
 have e_6 : uu 6 = .pointer (some ⟨bk2, 18, none⟩) := hd 6 (by decide)
 have e_7 : uu 7 = .pointer (some ⟨bk2, 21, none⟩) := hd 7 (by decide)
 clear hd
 simp only [layS, Act.put, zzC, zzD, zzE, Nat.zero_add, Nat.reduceAdd, List.drop_succ_cons, List.drop_zero, List.drop_nil, e_0, e_1, e_2, e_3, e_4, e_5, e_6, e_7]
 clear e_0 e_1 e_2 e_3 e_4 e_5 e_6 e_7
 have hJ17 := hJm.es
 clear hJm
 go_wp2_with (refine stop_store 23 (.tmp 19) (.tmp 17) 0 bk2 21 (cT ⟨r.a, r.b, ⟨r.c.x, zS, zS⟩⟩) 27 3 (cS r.c.y).toList (cT ⟨r.a, r.b, ⟨r.c.x, r.c.y, zS⟩⟩) [(bk2, (cT ⟨r.a, r.b, ⟨r.c.x, r.c.y, zS⟩⟩), 27), (bk1, (cT zT), 27)] rfl rfl rfl rfl sz23 hJ17 rfl (by kernel_rfl) (zzF (by kernel_rfl)) (by kernel_rfl) (by kernel_rfl) (by kernel_rfl) (fun W18 hJ18 => ?_))
 clear hJ17
 unfold Stop
 try simp only [Act.put, zzC, zzD, zzE]
 go_wp2
 rw [rounds_succ]
 go_wp2
 obtain ⟨m8_18, hm⟩ : ∃ m, m = W18.heap.size := ⟨_, rfl⟩
 have hM := hJ18.em
 rw [← hm] at hM
 clear hm hJ18
 refine wp_region_z 8 [some 12, some 13, some 14, some 15, some 16, some 17, some 18, some 19] (veL m8_18 [.eq (.int .i64 2), .eq (.int .i64 2), .eq (.func (.func k) #[] caps), .eq (.int .i64 2), .eq (.int .i64 2), .eq (.agg (cS r.c.z)), .eq (.pointer (some ⟨bk2, 18, none⟩)), .eq (.pointer (some ⟨bk2, 24, none⟩))]) (Em w m8_18 [(bk2, (cT ⟨r.a, r.b, ⟨r.c.x, r.c.y, zS⟩⟩), 27), (bk1, (cT zT), 27)]) (by kernel_rfl) (by kernel_rfl) (by rfl) (by decide) (by rfl) hM ?_ ?_
 ·
  intro i hl hi uu ww aa hJ hd hev hin
  clear hM
  obtain rfl | rfl | rfl | rfl | rfl | rfl | rfl | rfl : i = 0 ∨ i = 1 ∨ i = 2 ∨ i = 3 ∨ i = 4 ∨ i = 5 ∨ i = 6 ∨ i = 7 := by omega
  ·
   exact .inr ⟨rfl, fun K' hK => wp_move (.tmp 4) rfl (eval_tmp ((hev 4 (by decide)).trans rfl)) (hK _ _ hJ rfl veL_same)⟩
  ·
   exact .inr ⟨rfl, fun K' hK => wp_move (.tmp 5) rfl (eval_tmp ((hev 5 (by decide)).trans rfl)) (hK _ _ hJ rfl veL_same)⟩
  ·
   exact .inr ⟨rfl, fun K' hK => wp_move (.tmp 0) rfl (eval_tmp ((hev 0 (by decide)).trans rfl)) (hK _ _ hJ rfl veL_same)⟩
  ·
   exact .inr ⟨rfl, fun K' hK => wp_move (.tmp 4) rfl (eval_tmp ((hev 4 (by decide)).trans rfl)) (hK _ _ hJ rfl veL_same)⟩
  ·
   exact .inr ⟨rfl, fun K' hK => wp_move (.tmp 5) rfl (eval_tmp ((hev 5 (by decide)).trans rfl)) (hK _ _ hJ rfl veL_same)⟩
  ·
   exact .inr ⟨rfl, fun K' hK => wp_callv (.tmp 14) #[.tmp 15, .tmp 16] _ k caps #[.int .i64 2, .int .i64 2] (va 2 2) rfl (eval_tmp ((hin 2 14 rfl).trans (congrArg some (show uu 2 = .func (.func k) #[] caps from hd 2 (by decide) (by kernel_rfl))))) (map2 (eval_tmp ((hin 3 15 rfl).trans (congrArg some (show uu 3 = .int .i64 2 from hd 3 (by decide) (by kernel_rfl))))) (eval_tmp ((hin 4 16 rfl).trans (congrArg some (show uu 4 = .int .i64 2 from hd 4 (by decide) (by kernel_rfl)))))) (hva 2 2) hk (H22.out ww hJ.es.below) (fun _ hB => (hK _ _ (hJ.later hB) rfl (veL_later hB)))⟩
  ·
   exact .inr ⟨rfl, fun K' hK => wp_ixa 27 (.tmp 3) (.tmp 12) rfl (eval_tmp ((hev 3 (by decide)).trans rfl)) (eval_tmp ((hin 0 12 rfl).trans (congrArg some (show uu 0 = .int .i64 2 from hd 0 (by decide) (by kernel_rfl))))) (fun _ => by kernel_rfl) (hK _ _ hJ rfl veL_same)⟩
  ·
   exact .inr ⟨rfl, fun K' hK => wp_ixa 25 (.tmp 18) (.tmp 13) rfl (eval_tmp ((hin 6 18 rfl).trans (congrArg some (show uu 6 = .pointer (some ⟨bk2, 18, none⟩) from hd 6 (by decide) (by kernel_rfl))))) (eval_tmp ((hin 1 13 rfl).trans (congrArg some (show uu 1 = .int .i64 2 from hd 1 (by decide) (by kernel_rfl))))) (fun _ => by kernel_rfl) (hK _ _ hJ rfl veL_same)⟩
 clear hM
 intro uu W19 hJm hd
 have e_0 : uu 0 = .int .i64 2 := hd 0 (by decide)
 have e_1 : uu 1 = .int .i64 2 := hd 1 (by decide)
 have e_2 : uu 2 = .func (.func k) #[] caps := hd 2 (by decide)
 have e_3 : uu 3 = .int .i64 2 := hd 3 (by decide)
 have e_4 : uu 4 = .int .i64 2 := hd 4 (by decide)
 have e_5 : uu 5 = .agg (cS r.c.z) := hd 5 (by decide)
 have e_6 : uu 6 = .pointer (some ⟨bk2, 18, none⟩) := hd 6 (by decide)
 have e_7 : uu 7 = .pointer (some ⟨bk2, 24, none⟩) := hd 7 (by decide)
 clear hd
 simp only [layS, Act.put, zzC, zzD, zzE, Nat.zero_add, Nat.reduceAdd, List.drop_succ_cons, List.drop_zero, List.drop_nil, e_0, e_1, e_2, e_3, e_4, e_5, e_6, e_7]
 clear e_0 e_1 e_2 e_3 e_4 e_5 e_6 e_7
 have hJ19 := hJm.es
 clear hJm
 go_wp2_with (refine stop_store 23 (.tmp 19) (.tmp 17) 0 bk2 24 (cT ⟨r.a, r.b, ⟨r.c.x, r.c.y, zS⟩⟩) 27 3 (cS r.c.z).toList (cT r) [(bk2, (cT r), 27), (bk1, (cT zT), 27)] rfl rfl rfl rfl sz23 hJ19 rfl (by kernel_rfl) (zzF (by kernel_rfl)) (by kernel_rfl) (by kernel_rfl) (by kernel_rfl) (fun W20 hJ20 => ?_))
 clear hJ19
 unfold Stop
 try simp only [Act.put, zzC, zzD, zzE]
 go_wp2
 rw [rounds_succ]
 go_wp2
 rw [rounds_succ]
 go_wp2_with (refine stop_op rfl (fun K hK => wp_load 27 (.tmp 3) rfl bk2 0 27 (cT r) (cT r) 27 (hJ20.at' _ (zzG (i := 0) rfl)) rfl ag27 sz27 (zzF (by kernel_rfl)) (by kernel_rfl) (hK _ _ ?_)))
 unfold Stop
 try simp only [Act.put, zzC, zzD, zzE]
 go_wp2_with (refine stop_store 27 (.tmp 2) (.tmp 22) 1 bk1 0 (cT zT) 27 27 (cT r).toList (cT r) [(bk2, (cT r), 27), (bk1, (cT r), 27)] rfl rfl rfl rfl sz27 hJ20 rfl (by kernel_rfl) (zzF (by kernel_rfl)) (by kernel_rfl) (by kernel_rfl) (by kernel_rfl) (fun W21 hJ21 => ?_))
 clear hJ20
 unfold Stop
 try simp only [Act.put, zzC, zzD, zzE]
 go_wp2
 exact bodyPost_ret (v := .agg (cT r)) (results_cell 1 Tryz.results24 hJ21 rfl ag27 sz27 (zzF (by kernel_rfl)) rfl (by kernel_rfl)) rfl ⟨rfl, hJ21.below⟩
end Go.Proofs.YtolpfibihialkaaGreat
