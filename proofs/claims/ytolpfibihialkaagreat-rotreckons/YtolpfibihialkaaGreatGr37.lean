/- Parts of the proof. -/
import Derived.Test.YtolpfibihialkaaGreatGr0
import Derived.Test.YtolpfibihialkaaGreatGr32
import Derived.Test.YtolpfibihialkaaGreatGr34
/- Package rot: the walks of the closure of acrossTwice. No statement of the seat is proved here. -/
namespace Go.Proofs.YtolpfibihialkaaGreat
open Go Go.RowKit
set_option maxRecDepth 100000 in
set_option maxHeartbeats 12800000 in
theorem tTwi00 (b : Nat) (w_ : Vc)  (w : World) (hb : Cl w (b, cV w_, 25))  : Calls Tryz.prog 64 #[.int .i64 0, .int .i64 0, .pointer (some ⟨b, 0, none⟩)] w (PVal (.agg (cS (negS (addS (sqrS w_.y) (sqrS w_.z))))) w) := by
 have hJ0 := es_nil w
 go_enter Tryz.func64, Tryz.ntmps64
 go_wp2_with (refine stop_alloc 23 (cS zS) (.agg (cS zS)) rfl rfl zv23 rfl hJ0 (fun bk1 W1 hJ1 => ?_))
 clear hJ0
 unfold Stop
 try simp only [Act.put, zzC, zzD, zzE]
 go_wp2
 obtain ⟨m3_1, hm⟩ : ∃ m, m = W1.heap.size := ⟨_, rfl⟩
 have hM : ∀ uu, Jz w m3_1 [(bk1, (cS zS), 23)] [(18, 3, 23), (19, 3, 23)] [(20, 18, (cS w_.y), 23), (21, 19, (cS w_.z), 23)] (fun _ => false) uu W1.drew := fun uu => by rw [hm]; exact Jz.start hJ1 uu
 clear hm hJ1
 refine wp_region_y 22 [some 22, some 23, some 24, some 25, some 26, some 27, some 28, some 29, some 30, some 31, some 32, some 33, some 34, some 35, some 36, some 37, some 38, some 39, some 6, some 7, none, none] (veL m3_1 [.eq (.int .i64 0), .eq (.int .i64 1), .eq (.int .i64 1), .eq (.int .i64 0), .eq (.int .i64 2), .eq (.int .i64 2), .eq (.int .i64 1), .eq (.pointer (some ⟨b, 3, none⟩)), .eq (.agg (cS w_.y)), .eq (.int .i64 0), .eq (.int .i64 1), .eq (.int .i64 1), .eq (.int .i64 0), .eq (.int .i64 2), .eq (.int .i64 2), .eq (.int .i64 2), .eq (.pointer (some ⟨b, 6, none⟩)), .eq (.agg (cS w_.z)), .any, .any, .any, .any]) (Jz w m3_1 [(bk1, (cS zS), 23)] [(18, 3, 23), (19, 3, 23)] [(20, 18, (cS w_.y), 23), (21, 19, (cS w_.z), 23)]) (by kernel_rfl) (by kernel_rfl) (by rfl) (by decide) (by rfl) hM ?_ ?_
 ·
  intro i hl hi LL uu ww aa hLi hJ hd hev hin
  clear hM
  obtain rfl | rfl | rfl | rfl | rfl | rfl | rfl | rfl | rfl | rfl | rfl | rfl | rfl | rfl | rfl | rfl | rfl | rfl | rfl | rfl | rfl | rfl : i = 0 ∨ i = 1 ∨ i = 2 ∨ i = 3 ∨ i = 4 ∨ i = 5 ∨ i = 6 ∨ i = 7 ∨ i = 8 ∨ i = 9 ∨ i = 10 ∨ i = 11 ∨ i = 12 ∨ i = 13 ∨ i = 14 ∨ i = 15 ∨ i = 16 ∨ i = 17 ∨ i = 18 ∨ i = 19 ∨ i = 20 ∨ i = 21 := by omega
  ·
   exact .inr ⟨rfl, fun K' hK => wp_move (.tmp 0) rfl (eval_tmp ((hev 0 (by decide)).trans rfl)) (hK _ _ (hJ.grow hLi (by simp) (by simp) (Below.refl _ _)) rfl veL_same)⟩
  ·
   have x22 : aa.tmps[22]? = some (.int .i64 0) := ((hin 0 22 rfl).trans (congrArg some (show uu 0 = .int .i64 0 from (hd 0 (by decide) (by kernel_rfl)).2)))
   clear hd hev hin
   simp only [zzA, zzB]
   clear hl
   refine .inr ⟨rfl, fun K' hK => ?_⟩
   have HK := Lib.hid hK
   clear hK
   go_simp
   exact HK.out (.int .i64 1) _ (hJ.grow hLi (by simp) (by simp) (Below.refl _ _)) rfl veL_same
  ·
   have x23 : aa.tmps[23]? = some (.int .i64 1) := ((hin 1 23 rfl).trans (congrArg some (show uu 1 = .int .i64 1 from (hd 1 (by decide) (by kernel_rfl)).2)))
   clear hd hev hin
   simp only [zzA, zzB]
   clear hl
   refine .inr ⟨rfl, fun K' hK => ?_⟩
   have HK := Lib.hid hK
   clear hK
   go_simp
   exact HK.out (.int .i64 1) _ (hJ.grow hLi (by simp) (by simp) (Below.refl _ _)) rfl veL_same
  ·
   exact .inr ⟨rfl, fun K' hK => wp_move (.tmp 0) rfl (eval_tmp ((hev 0 (by decide)).trans rfl)) (hK _ _ (hJ.grow hLi (by simp) (by simp) (Below.refl _ _)) rfl veL_same)⟩
  ·
   have x25 : aa.tmps[25]? = some (.int .i64 0) := ((hin 3 25 rfl).trans (congrArg some (show uu 3 = .int .i64 0 from (hd 3 (by decide) (by kernel_rfl)).2)))
   clear hd hev hin
   simp only [zzA, zzB]
   clear hl
   refine .inr ⟨rfl, fun K' hK => ?_⟩
   have HK := Lib.hid hK
   clear hK
   go_simp
   exact HK.out (.int .i64 2) _ (hJ.grow hLi (by simp) (by simp) (Below.refl _ _)) rfl veL_same
  ·
   have x26 : aa.tmps[26]? = some (.int .i64 2) := ((hin 4 26 rfl).trans (congrArg some (show uu 4 = .int .i64 2 from (hd 4 (by decide) (by kernel_rfl)).2)))
   clear hd hev hin
   simp only [zzA, zzB]
   clear hl
   refine .inr ⟨rfl, fun K' hK => ?_⟩
   have HK := Lib.hid hK
   clear hK
   go_simp
   exact HK.out (.int .i64 2) _ (hJ.grow hLi (by simp) (by simp) (Below.refl _ _)) rfl veL_same
  ·
   have x24 : aa.tmps[24]? = some (.int .i64 1) := ((hin 2 24 rfl).trans (congrArg some (show uu 2 = .int .i64 1 from (hd 2 (by decide) (by kernel_rfl)).2)))
   have x27 : aa.tmps[27]? = some (.int .i64 2) := ((hin 5 27 rfl).trans (congrArg some (show uu 5 = .int .i64 2 from (hd 5 (by decide) (by kernel_rfl)).2)))
   clear hd hev hin
   simp only [zzA, zzB]
   clear hl
   refine .inr ⟨rfl, fun K' hK => ?_⟩
   have HK := Lib.hid hK
   clear hK
   go_simp
   exact HK.out (.int .i64 1) _ (hJ.grow hLi (by simp) (by simp) (Below.refl _ _)) rfl veL_same
  ·
   exact .inr ⟨rfl, fun K' hK => wp_ixa 25 (.tmp 2) (.tmp 28) rfl (eval_tmp ((hev 2 (by decide)).trans rfl)) (eval_tmp ((hin 6 28 rfl).trans (congrArg some (show uu 6 = .int .i64 1 from (hd 6 (by decide) (by kernel_rfl)).2)))) (fun _ => by kernel_rfl) (hK _ _ (hJ.grow hLi (by simp) (by simp) (Below.refl _ _)) rfl veL_same)⟩
  ·
   exact .inr ⟨rfl, fun K' hK => wp_load 23 (.tmp 29) rfl b 3 3 (cV w_) (cS w_.y) 25 (hb.below hJ.em.es.below) (eval_tmp ((hin 7 29 rfl).trans (congrArg some (show uu 7 = .pointer (some ⟨b, 3, none⟩) from (hd 7 (by decide) (by kernel_rfl)).2)))) ag23 sz23 (zzF (by kernel_rfl)) (by kernel_rfl) (hK _ _ (hJ.grow hLi (by simp) (by simp) (Below.refl _ _)) rfl veL_same)⟩
  ·
   exact .inr ⟨rfl, fun K' hK => wp_move (.tmp 0) rfl (eval_tmp ((hev 0 (by decide)).trans rfl)) (hK _ _ (hJ.grow hLi (by simp) (by simp) (Below.refl _ _)) rfl veL_same)⟩
  ·
   have x31 : aa.tmps[31]? = some (.int .i64 0) := ((hin 9 31 rfl).trans (congrArg some (show uu 9 = .int .i64 0 from (hd 9 (by decide) (by kernel_rfl)).2)))
   clear hd hev hin
   simp only [zzA, zzB]
   clear hl
   refine .inr ⟨rfl, fun K' hK => ?_⟩
   have HK := Lib.hid hK
   clear hK
   go_simp
   exact HK.out (.int .i64 1) _ (hJ.grow hLi (by simp) (by simp) (Below.refl _ _)) rfl veL_same
  ·
   have x32 : aa.tmps[32]? = some (.int .i64 1) := ((hin 10 32 rfl).trans (congrArg some (show uu 10 = .int .i64 1 from (hd 10 (by decide) (by kernel_rfl)).2)))
   clear hd hev hin
   simp only [zzA, zzB]
   clear hl
   refine .inr ⟨rfl, fun K' hK => ?_⟩
   have HK := Lib.hid hK
   clear hK
   go_simp
   exact HK.out (.int .i64 1) _ (hJ.grow hLi (by simp) (by simp) (Below.refl _ _)) rfl veL_same
  ·
   exact .inr ⟨rfl, fun K' hK => wp_move (.tmp 0) rfl (eval_tmp ((hev 0 (by decide)).trans rfl)) (hK _ _ (hJ.grow hLi (by simp) (by simp) (Below.refl _ _)) rfl veL_same)⟩
  ·
   have x34 : aa.tmps[34]? = some (.int .i64 0) := ((hin 12 34 rfl).trans (congrArg some (show uu 12 = .int .i64 0 from (hd 12 (by decide) (by kernel_rfl)).2)))
   clear hd hev hin
   simp only [zzA, zzB]
   clear hl
   refine .inr ⟨rfl, fun K' hK => ?_⟩
   have HK := Lib.hid hK
   clear hK
   go_simp
   exact HK.out (.int .i64 2) _ (hJ.grow hLi (by simp) (by simp) (Below.refl _ _)) rfl veL_same
  ·
   have x35 : aa.tmps[35]? = some (.int .i64 2) := ((hin 13 35 rfl).trans (congrArg some (show uu 13 = .int .i64 2 from (hd 13 (by decide) (by kernel_rfl)).2)))
   clear hd hev hin
   simp only [zzA, zzB]
   clear hl
   refine .inr ⟨rfl, fun K' hK => ?_⟩
   have HK := Lib.hid hK
   clear hK
   go_simp
   exact HK.out (.int .i64 2) _ (hJ.grow hLi (by simp) (by simp) (Below.refl _ _)) rfl veL_same
  ·
   have x33 : aa.tmps[33]? = some (.int .i64 1) := ((hin 11 33 rfl).trans (congrArg some (show uu 11 = .int .i64 1 from (hd 11 (by decide) (by kernel_rfl)).2)))
   have x36 : aa.tmps[36]? = some (.int .i64 2) := ((hin 14 36 rfl).trans (congrArg some (show uu 14 = .int .i64 2 from (hd 14 (by decide) (by kernel_rfl)).2)))
   clear hd hev hin
   simp only [zzA, zzB]
   clear hl
   refine .inr ⟨rfl, fun K' hK => ?_⟩
   have HK := Lib.hid hK
   clear hK
   go_simp
   exact HK.out (.int .i64 2) _ (hJ.grow hLi (by simp) (by simp) (Below.refl _ _)) rfl veL_same
  ·
   exact .inr ⟨rfl, fun K' hK => wp_ixa 25 (.tmp 2) (.tmp 37) rfl (eval_tmp ((hev 2 (by decide)).trans rfl)) (eval_tmp ((hin 15 37 rfl).trans (congrArg some (show uu 15 = .int .i64 2 from (hd 15 (by decide) (by kernel_rfl)).2)))) (fun _ => by kernel_rfl) (hK _ _ (hJ.grow hLi (by simp) (by simp) (Below.refl _ _)) rfl veL_same)⟩
  ·
   exact .inr ⟨rfl, fun K' hK => wp_load 23 (.tmp 38) rfl b 6 3 (cV w_) (cS w_.z) 25 (hb.below hJ.em.es.below) (eval_tmp ((hin 16 38 rfl).trans (congrArg some (show uu 16 = .pointer (some ⟨b, 6, none⟩) from (hd 16 (by decide) (by kernel_rfl)).2)))) ag23 sz23 (zzF (by kernel_rfl)) (by kernel_rfl) (hK _ _ (hJ.grow hLi (by simp) (by simp) (Below.refl _ _)) rfl veL_same)⟩
  ·
   exact .inr ⟨rfl, fun K' hK => wp_alloc 23 rfl (.agg (cS zS)) zv23 (hK _ _ (hJ.alloc hLi (n := 3) rfl (by simp) (by simp)) trivial (veL_flat rfl))⟩
  ·
   exact .inr ⟨rfl, fun K' hK => wp_alloc 23 rfl (.agg (cS zS)) zv23 (hK _ _ (hJ.alloc hLi (n := 3) rfl (by simp) (by simp)) trivial (veL_flat rfl))⟩
  ·
   have hLa := (hd 18 (by decide) (by kernel_rfl)).1
   obtain ⟨kb, kC, ke, kge, ksz, kcl⟩ := hJ.bx (18, 3, 23) (by simp) hLa
   have x6 : aa.tmps[6]? = some (.pointer (some ⟨kb, 0, none⟩)) := (hin 18 6 rfl).trans (congrArg some ke)
   have x30 : aa.tmps[30]? = some (.agg (cS w_.y)) := ((hin 8 30 rfl).trans (congrArg some (show uu 8 = .agg (cS w_.y) from (hd 8 (by decide) (by kernel_rfl)).2)))
   clear hd hev hin
   simp only [zzA, zzB]
   clear hl
   refine .inr ⟨rfl, fun K' hK => ?_⟩
   have HK := Lib.hid hK
   clear hK
   refine wp_store 23 (.tmp 6) (.tmp 30) rfl 0 kb 0 kC 23 3 (cS w_.y).toList (hJ.em.join kge kcl) rfl (eval_tmp x6) (by rw [eval_tmp x30]; rfl) sz23 (by kernel_rfl) (by rw [ksz]; decide) (by kernel_rfl) (fun ww2 hE hk hz => ?_)
   rw [putC_full (show kC.size = (cS w_.y).toList.length from ksz), Array.toArray_toList] at hE
   exact HK.out undef _ (hJ.store (a := 18) (n := 3) (T := 23) (Cn := (cS w_.y)) hLi (by simp) (by simp) (by simp) (by simp) (by simp) (by simp) hLa ke kge rfl hE hk hz) trivial (veL_flat rfl)
  ·
   have hLa := (hd 19 (by decide) (by kernel_rfl)).1
   obtain ⟨kb, kC, ke, kge, ksz, kcl⟩ := hJ.bx (19, 3, 23) (by simp) hLa
   have x7 : aa.tmps[7]? = some (.pointer (some ⟨kb, 0, none⟩)) := (hin 19 7 rfl).trans (congrArg some ke)
   have x39 : aa.tmps[39]? = some (.agg (cS w_.z)) := ((hin 17 39 rfl).trans (congrArg some (show uu 17 = .agg (cS w_.z) from (hd 17 (by decide) (by kernel_rfl)).2)))
   clear hd hev hin
   simp only [zzA, zzB]
   clear hl
   refine .inr ⟨rfl, fun K' hK => ?_⟩
   have HK := Lib.hid hK
   clear hK
   refine wp_store 23 (.tmp 7) (.tmp 39) rfl 0 kb 0 kC 23 3 (cS w_.z).toList (hJ.em.join kge kcl) rfl (eval_tmp x7) (by rw [eval_tmp x39]; rfl) sz23 (by kernel_rfl) (by rw [ksz]; decide) (by kernel_rfl) (fun ww2 hE hk hz => ?_)
   rw [putC_full (show kC.size = (cS w_.z).toList.length from ksz), Array.toArray_toList] at hE
   exact HK.out undef _ (hJ.store (a := 19) (n := 3) (T := 23) (Cn := (cS w_.z)) hLi (by simp) (by simp) (by simp) (by simp) (by simp) (by simp) hLa ke kge rfl hE hk hz) trivial (veL_flat rfl)
 clear hM
 intro LL uu W2 hLL hJm hd
 have e_0 : uu 0 = .int .i64 0 := hd 0 (by decide)
 have e_1 : uu 1 = .int .i64 1 := hd 1 (by decide)
 have e_2 : uu 2 = .int .i64 1 := hd 2 (by decide)
 have e_3 : uu 3 = .int .i64 0 := hd 3 (by decide)
 have e_4 : uu 4 = .int .i64 2 := hd 4 (by decide)
 have e_5 : uu 5 = .int .i64 2 := hd 5 (by decide)
 have e_6 : uu 6 = .int .i64 1 := hd 6 (by decide)
 have e_7 : uu 7 = .pointer (some ⟨b, 3, none⟩) := hd 7 (by decide)
 have e_8 : uu 8 = .agg (cS w_.y) := hd 8 (by decide)
 have e_9 : uu 9 = .int .i64 0 := hd 9 (by decide)
 have e_10 : uu 10 = .int .i64 1 := hd 10 (by decide)
 have e_11 : uu 11 = .int .i64 1 := hd 11 (by decide)
 have e_12 : uu 12 = .int .i64 0 := hd 12 (by decide)
 have e_13 : uu 13 = .int .i64 2 := hd 13 (by decide)
 have e_14 : uu 14 = .int .i64 2 := hd 14 (by decide)
 have e_15 : uu 15 = .int .i64 2 := hd 15 (by decide)
 have e_16 : uu 16 = .pointer (some ⟨b, 6, none⟩) := hd 16 (by decide)
 have e_17 : uu 17 = .agg (cS w_.z) := hd 17 (by decide)
 obtain ⟨bk2, kC18, e_18, nge18, ksz18, nB18⟩ := hJm.bx (18, 3, 23) (by simp) (hLL 18 (by decide))
 obtain ⟨bk3, kC19, e_19, nge19, ksz19, nB19⟩ := hJm.bx (19, 3, 23) (by simp) (hLL 19 (by decide))
 obtain ⟨_, kb20, ke20, kl20⟩ := hJm.st (20, 18, (cS w_.y), 23) (by simp) (hLL 20 (by decide))
 have kq20 : kb20 = bk2 := by
  have hq := ke20.symm.trans e_18
  injection hq with hq
  injection hq with hq
  injection hq with hq
 subst kq20
 clear ke20
 obtain ⟨_, kb21, ke21, kl21⟩ := hJm.st (21, 19, (cS w_.z), 23) (by simp) (hLL 21 (by decide))
 have kq21 : kb21 = bk3 := by
  have hq := ke21.symm.trans e_19
  injection hq with hq
  injection hq with hq
  injection hq with hq
 subst kq21
 clear ke21
 have g18 := hJm.em.join nge18 kl20
 have g19 : Es w W2 _ := Es.join g18 (Nat.le_trans hJm.em.ge nge19) (by
  intro p hp
  rcases List.mem_cons.1 hp with rfl | hp
  ·
   intro hc
   refine hJm.ne (18, 3, 23) (19, 3, 23) (by simp) (by simp) (by decide) (hLL 18 (by decide)) (hLL 19 (by decide)) ?_
   rw [e_18, e_19]
   exact congrArg (fun k => Value.pointer (some ⟨k, 0, none⟩)) hc
  have h1 := hJm.em.lt p hp
  have h2 := nge19
  omega) kl21
 clear hd hLL
 simp only [layS, Act.put, zzC, zzD, zzE, Nat.zero_add, Nat.reduceAdd, List.drop_succ_cons, List.drop_zero, List.drop_nil, e_0, e_1, e_2, e_3, e_4, e_5, e_6, e_7, e_8, e_9, e_10, e_11, e_12, e_13, e_14, e_15, e_16, e_17, e_18, e_19]
 have hJ2 := g19
 clear hJm e_0 e_1 e_2 e_3 e_4 e_5 e_6 e_7 e_8 e_9 e_10 e_11 e_12 e_13 e_14 e_15 e_16 e_17 e_18 e_19 nge18 nB18 ksz18 g18 nge19 nB19 ksz19 g19
 go_wp2
 obtain ⟨m4_2, hm⟩ : ∃ m, m = W2.heap.size := ⟨_, rfl⟩
 have hM := hJ2.em
 rw [← hm] at hM
 clear hm hJ2
 refine wp_region_z 6 [some 40, some 41, some 42, some 43, some 44, some 45] (veL m4_2 [.eq (.agg (cS w_.y)), .eq (.agg (cS (sqrS w_.y))), .eq (.agg (cS w_.z)), .eq (.agg (cS (sqrS w_.z))), .eq (.agg (cS (addS (sqrS w_.y) (sqrS w_.z)))), .eq (.agg (cS (negS (addS (sqrS w_.y) (sqrS w_.z)))))]) (Em w m4_2 [(kb21, (cS w_.z), 23), (kb20, (cS w_.y), 23), (bk1, (cS zS), 23)]) (by kernel_rfl) (by kernel_rfl) (by rfl) (by decide) (by rfl) hM ?_ ?_
 ·
  intro i hl hi uu ww aa hJ hd hev hin
  clear hM
  obtain rfl | rfl | rfl | rfl | rfl | rfl : i = 0 ∨ i = 1 ∨ i = 2 ∨ i = 3 ∨ i = 4 ∨ i = 5 := by omega
  ·
   exact .inr ⟨rfl, fun K' hK => wp_load 23 (.tmp 6) rfl kb20 0 3 (cS w_.y) (cS w_.y) 23 (hJ.es.at' _ (zzG (i := 1) rfl)) (eval_tmp ((hev 6 (by decide)).trans rfl)) ag23 sz23 (zzF (by kernel_rfl)) (by kernel_rfl) (hK _ _ hJ rfl veL_same)⟩
  ·
   exact .inr ⟨rfl, fun K' hK => wp_callv (.func 60) #[.tmp 40] _ 60 #[] #[.agg (cS w_.y)] #[.agg (cS w_.y)] rfl rfl (map1 (eval_tmp ((hin 0 40 rfl).trans (congrArg some (show uu 0 = .agg (cS w_.y) from hd 0 (by decide) (by kernel_rfl)))))) (by kernel_rfl) (fun _ _ => by kernel_rfl) (sSqr_any w_.y ww) (fun _ hB => (hK _ _ (hJ.later hB) rfl (veL_later hB)))⟩
  ·
   exact .inr ⟨rfl, fun K' hK => wp_load 23 (.tmp 7) rfl kb21 0 3 (cS w_.z) (cS w_.z) 23 (hJ.es.at' _ (zzG (i := 0) rfl)) (eval_tmp ((hev 7 (by decide)).trans rfl)) ag23 sz23 (zzF (by kernel_rfl)) (by kernel_rfl) (hK _ _ hJ rfl veL_same)⟩
  ·
   exact .inr ⟨rfl, fun K' hK => wp_callv (.func 60) #[.tmp 42] _ 60 #[] #[.agg (cS w_.z)] #[.agg (cS w_.z)] rfl rfl (map1 (eval_tmp ((hin 2 42 rfl).trans (congrArg some (show uu 2 = .agg (cS w_.z) from hd 2 (by decide) (by kernel_rfl)))))) (by kernel_rfl) (fun _ _ => by kernel_rfl) (sSqr_any w_.z ww) (fun _ hB => (hK _ _ (hJ.later hB) rfl (veL_later hB)))⟩
  ·
   exact .inr ⟨rfl, fun K' hK => wp_callv (.func 41) #[.tmp 41, .tmp 43] _ 41 #[] #[.agg (cS (sqrS w_.y)), .agg (cS (sqrS w_.z))] #[.agg (cS (sqrS w_.y)), .agg (cS (sqrS w_.z))] rfl rfl (map2 (eval_tmp ((hin 1 41 rfl).trans (congrArg some (show uu 1 = .agg (cS (sqrS w_.y)) from hd 1 (by decide) (by kernel_rfl))))) (eval_tmp ((hin 3 43 rfl).trans (congrArg some (show uu 3 = .agg (cS (sqrS w_.z)) from hd 3 (by decide) (by kernel_rfl)))))) (by kernel_rfl) (fun _ _ => by kernel_rfl) (sAdd_any (sqrS w_.y) (sqrS w_.z) ww) (fun _ hB => (hK _ _ (hJ.later hB) rfl (veL_later hB)))⟩
  ·
   exact .inr ⟨rfl, fun K' hK => wp_callv (.func 63) #[.tmp 44] _ 63 #[] #[.agg (cS (addS (sqrS w_.y) (sqrS w_.z)))] #[.agg (cS (addS (sqrS w_.y) (sqrS w_.z)))] rfl rfl (map1 (eval_tmp ((hin 4 44 rfl).trans (congrArg some (show uu 4 = .agg (cS (addS (sqrS w_.y) (sqrS w_.z))) from hd 4 (by decide) (by kernel_rfl)))))) (by kernel_rfl) (fun _ _ => by kernel_rfl) (sNeg_any (addS (sqrS w_.y) (sqrS w_.z)) ww) (fun _ hB => (hK _ _ (hJ.later hB) rfl (veL_later hB)))⟩
 clear hM
 intro uu W3 hJm hd
 have e_0 : uu 0 = .agg (cS w_.y) := hd 0 (by decide)
 have e_1 : uu 1 = .agg (cS (sqrS w_.y)) := hd 1 (by decide)
 have e_2 : uu 2 = .agg (cS w_.z) := hd 2 (by decide)
 have e_3 : uu 3 = .agg (cS (sqrS w_.z)) := hd 3 (by decide)
 have e_4 : uu 4 = .agg (cS (addS (sqrS w_.y) (sqrS w_.z))) := hd 4 (by decide)
 have e_5 : uu 5 = .agg (cS (negS (addS (sqrS w_.y) (sqrS w_.z)))) := hd 5 (by decide)
 clear hd
 simp only [layS, Act.put, zzC, zzD, zzE, Nat.zero_add, Nat.reduceAdd, List.drop_succ_cons, List.drop_zero, List.drop_nil, e_0, e_1, e_2, e_3, e_4, e_5]
 clear e_0 e_1 e_2 e_3 e_4 e_5
 have hJ3 := hJm.es
 clear hJm
 go_wp2_with (refine stop_store 23 (.tmp 5) (.tmp 45) 2 bk1 0 (cS zS) 23 3 (cS (negS (addS (sqrS w_.y) (sqrS w_.z)))).toList (cS (negS (addS (sqrS w_.y) (sqrS w_.z)))) [(kb21, (cS w_.z), 23), (kb20, (cS w_.y), 23), (bk1, (cS (negS (addS (sqrS w_.y) (sqrS w_.z)))), 23)] rfl rfl rfl rfl sz23 hJ3 rfl (by kernel_rfl) (zzF (by kernel_rfl)) (by kernel_rfl) (by kernel_rfl) (by kernel_rfl) (fun W4 hJ4 => ?_))
 clear hJ3
 unfold Stop
 try simp only [Act.put, zzC, zzD, zzE]
 go_wp2
 exact bodyPost_ret (v := .agg (cS (negS (addS (sqrS w_.y) (sqrS w_.z))))) (results_cell 2 Tryz.results64 hJ4 rfl ag23 sz23 (zzF (by kernel_rfl)) rfl (by kernel_rfl)) rfl ⟨rfl, hJ4.below⟩
set_option maxRecDepth 100000 in
set_option maxHeartbeats 12800000 in
theorem tTwi01 (b : Nat) (w_ : Vc)  (w : World) (hb : Cl w (b, cV w_, 25))  : Calls Tryz.prog 64 #[.int .i64 0, .int .i64 1, .pointer (some ⟨b, 0, none⟩)] w (PVal (.agg (cS (mulS w_.x w_.y))) w) := by
 have hJ0 := es_nil w
 go_enter Tryz.func64, Tryz.ntmps64
 go_wp2_with (refine stop_alloc 23 (cS zS) (.agg (cS zS)) rfl rfl zv23 rfl hJ0 (fun bk1 W1 hJ1 => ?_))
 clear hJ0
 unfold Stop
 try simp only [Act.put, zzC, zzD, zzE]
 go_wp2
 obtain ⟨m2_1, hm⟩ : ∃ m, m = W1.heap.size := ⟨_, rfl⟩
 have hM := hJ1.em
 rw [← hm] at hM
 clear hm hJ1
 refine wp_region_z 11 [some 11, some 12, some 13, some 14, some 15, some 16, some 17, some 18, some 19, some 20, some 21] (veL m2_1 [.eq (.int .i64 0), .eq (.int .i64 1), .eq (.int .i64 0), .eq (.pointer (some ⟨b, 0, none⟩)), .eq (.agg (cS w_.x)), .eq (.int .i64 0), .eq (.int .i64 1), .eq (.int .i64 1), .eq (.pointer (some ⟨b, 3, none⟩)), .eq (.agg (cS w_.y)), .eq (.agg (cS (mulS w_.x w_.y)))]) (Em w m2_1 [(bk1, (cS zS), 23)]) (by kernel_rfl) (by kernel_rfl) (by rfl) (by decide) (by rfl) hM ?_ ?_
 ·
  intro i hl hi uu ww aa hJ hd hev hin
  clear hM
  obtain rfl | rfl | rfl | rfl | rfl | rfl | rfl | rfl | rfl | rfl | rfl : i = 0 ∨ i = 1 ∨ i = 2 ∨ i = 3 ∨ i = 4 ∨ i = 5 ∨ i = 6 ∨ i = 7 ∨ i = 8 ∨ i = 9 ∨ i = 10 := by omega
  ·
   exact .inr ⟨rfl, fun K' hK => wp_move (.tmp 0) rfl (eval_tmp ((hev 0 (by decide)).trans rfl)) (hK _ _ hJ rfl veL_same)⟩
  ·
   exact .inr ⟨rfl, fun K' hK => wp_move (.tmp 1) rfl (eval_tmp ((hev 1 (by decide)).trans rfl)) (hK _ _ hJ rfl veL_same)⟩
  ·
   have x11 : aa.tmps[11]? = some (.int .i64 0) := ((hin 0 11 rfl).trans (congrArg some (show uu 0 = .int .i64 0 from hd 0 (by decide) (by kernel_rfl))))
   have x12 : aa.tmps[12]? = some (.int .i64 1) := ((hin 1 12 rfl).trans (congrArg some (show uu 1 = .int .i64 1 from hd 1 (by decide) (by kernel_rfl))))
   clear hd hev hin
   simp only [zzA, zzB]
   clear hl
   refine .inr ⟨rfl, fun K' hK => ?_⟩
   have HK := Lib.hid hK
   clear hK
   go_simp
   exact HK.out (.int .i64 0) _ hJ rfl veL_same
  ·
   exact .inr ⟨rfl, fun K' hK => wp_ixa 25 (.tmp 2) (.tmp 13) rfl (eval_tmp ((hev 2 (by decide)).trans rfl)) (eval_tmp ((hin 2 13 rfl).trans (congrArg some (show uu 2 = .int .i64 0 from hd 2 (by decide) (by kernel_rfl))))) (fun _ => by kernel_rfl) (hK _ _ hJ rfl veL_same)⟩
  ·
   exact .inr ⟨rfl, fun K' hK => wp_load 23 (.tmp 14) rfl b 0 3 (cV w_) (cS w_.x) 25 (hb.below hJ.es.below) (eval_tmp ((hin 3 14 rfl).trans (congrArg some (show uu 3 = .pointer (some ⟨b, 0, none⟩) from hd 3 (by decide) (by kernel_rfl))))) ag23 sz23 (zzF (by kernel_rfl)) (by kernel_rfl) (hK _ _ hJ rfl veL_same)⟩
  ·
   exact .inr ⟨rfl, fun K' hK => wp_move (.tmp 0) rfl (eval_tmp ((hev 0 (by decide)).trans rfl)) (hK _ _ hJ rfl veL_same)⟩
  ·
   exact .inr ⟨rfl, fun K' hK => wp_move (.tmp 1) rfl (eval_tmp ((hev 1 (by decide)).trans rfl)) (hK _ _ hJ rfl veL_same)⟩
  ·
   have x16 : aa.tmps[16]? = some (.int .i64 0) := ((hin 5 16 rfl).trans (congrArg some (show uu 5 = .int .i64 0 from hd 5 (by decide) (by kernel_rfl))))
   have x17 : aa.tmps[17]? = some (.int .i64 1) := ((hin 6 17 rfl).trans (congrArg some (show uu 6 = .int .i64 1 from hd 6 (by decide) (by kernel_rfl))))
   clear hd hev hin
   simp only [zzA, zzB]
   clear hl
   refine .inr ⟨rfl, fun K' hK => ?_⟩
   have HK := Lib.hid hK
   clear hK
   go_simp
   exact HK.out (.int .i64 1) _ hJ rfl veL_same
  ·
   exact .inr ⟨rfl, fun K' hK => wp_ixa 25 (.tmp 2) (.tmp 18) rfl (eval_tmp ((hev 2 (by decide)).trans rfl)) (eval_tmp ((hin 7 18 rfl).trans (congrArg some (show uu 7 = .int .i64 1 from hd 7 (by decide) (by kernel_rfl))))) (fun _ => by kernel_rfl) (hK _ _ hJ rfl veL_same)⟩
  ·
   exact .inr ⟨rfl, fun K' hK => wp_load 23 (.tmp 19) rfl b 3 3 (cV w_) (cS w_.y) 25 (hb.below hJ.es.below) (eval_tmp ((hin 8 19 rfl).trans (congrArg some (show uu 8 = .pointer (some ⟨b, 3, none⟩) from hd 8 (by decide) (by kernel_rfl))))) ag23 sz23 (zzF (by kernel_rfl)) (by kernel_rfl) (hK _ _ hJ rfl veL_same)⟩
  ·
   exact .inr ⟨rfl, fun K' hK => wp_callv (.func 42) #[.tmp 15, .tmp 20] _ 42 #[] #[.agg (cS w_.x), .agg (cS w_.y)] #[.agg (cS w_.x), .agg (cS w_.y)] rfl rfl (map2 (eval_tmp ((hin 4 15 rfl).trans (congrArg some (show uu 4 = .agg (cS w_.x) from hd 4 (by decide) (by kernel_rfl))))) (eval_tmp ((hin 9 20 rfl).trans (congrArg some (show uu 9 = .agg (cS w_.y) from hd 9 (by decide) (by kernel_rfl)))))) (by kernel_rfl) (fun _ _ => by kernel_rfl) (sMul_any w_.x w_.y ww) (fun _ hB => (hK _ _ (hJ.later hB) rfl (veL_later hB)))⟩
 clear hM
 intro uu W2 hJm hd
 have e_0 : uu 0 = .int .i64 0 := hd 0 (by decide)
 have e_1 : uu 1 = .int .i64 1 := hd 1 (by decide)
 have e_2 : uu 2 = .int .i64 0 := hd 2 (by decide)
 have e_3 : uu 3 = .pointer (some ⟨b, 0, none⟩) := hd 3 (by decide)
 have e_4 : uu 4 = .agg (cS w_.x) := hd 4 (by decide)
 have e_5 : uu 5 = .int .i64 0 := hd 5 (by decide)
 have e_6 : uu 6 = .int .i64 1 := hd 6 (by decide)
 have e_7 : uu 7 = .int .i64 1 := hd 7 (by decide)
 have e_8 : uu 8 = .pointer (some ⟨b, 3, none⟩) := hd 8 (by decide)
 have e_9 : uu 9 = .agg (cS w_.y) := hd 9 (by decide)
 have e_10 : uu 10 = .agg (cS (mulS w_.x w_.y)) := hd 10 (by decide)
 clear hd
 simp only [layS, Act.put, zzC, zzD, zzE, Nat.zero_add, Nat.reduceAdd, List.drop_succ_cons, List.drop_zero, List.drop_nil, e_0, e_1, e_2, e_3, e_4, e_5, e_6, e_7, e_8, e_9, e_10]
 clear e_0 e_1 e_2 e_3 e_4 e_5 e_6 e_7 e_8 e_9 e_10
 have hJ2 := hJm.es
 clear hJm
 go_wp2_with (refine stop_store 23 (.tmp 5) (.tmp 21) 0 bk1 0 (cS zS) 23 3 (cS (mulS w_.x w_.y)).toList (cS (mulS w_.x w_.y)) [(bk1, (cS (mulS w_.x w_.y)), 23)] rfl rfl rfl rfl sz23 hJ2 rfl (by kernel_rfl) (zzF (by kernel_rfl)) (by kernel_rfl) (by kernel_rfl) (by kernel_rfl) (fun W3 hJ3 => ?_))
 clear hJ2
 unfold Stop
 try simp only [Act.put, zzC, zzD, zzE]
 go_wp2
 exact bodyPost_ret (v := .agg (cS (mulS w_.x w_.y))) (results_cell 0 Tryz.results64 hJ3 rfl ag23 sz23 (zzF (by kernel_rfl)) rfl (by kernel_rfl)) rfl ⟨rfl, hJ3.below⟩
set_option maxRecDepth 100000 in
set_option maxHeartbeats 12800000 in
theorem tTwi02 (b : Nat) (w_ : Vc)  (w : World) (hb : Cl w (b, cV w_, 25))  : Calls Tryz.prog 64 #[.int .i64 0, .int .i64 2, .pointer (some ⟨b, 0, none⟩)] w (PVal (.agg (cS (mulS w_.x w_.z))) w) := by
 have hJ0 := es_nil w
 go_enter Tryz.func64, Tryz.ntmps64
 go_wp2_with (refine stop_alloc 23 (cS zS) (.agg (cS zS)) rfl rfl zv23 rfl hJ0 (fun bk1 W1 hJ1 => ?_))
 clear hJ0
 unfold Stop
 try simp only [Act.put, zzC, zzD, zzE]
 go_wp2
 obtain ⟨m2_1, hm⟩ : ∃ m, m = W1.heap.size := ⟨_, rfl⟩
 have hM := hJ1.em
 rw [← hm] at hM
 clear hm hJ1
 refine wp_region_z 11 [some 11, some 12, some 13, some 14, some 15, some 16, some 17, some 18, some 19, some 20, some 21] (veL m2_1 [.eq (.int .i64 0), .eq (.int .i64 2), .eq (.int .i64 0), .eq (.pointer (some ⟨b, 0, none⟩)), .eq (.agg (cS w_.x)), .eq (.int .i64 0), .eq (.int .i64 2), .eq (.int .i64 2), .eq (.pointer (some ⟨b, 6, none⟩)), .eq (.agg (cS w_.z)), .eq (.agg (cS (mulS w_.x w_.z)))]) (Em w m2_1 [(bk1, (cS zS), 23)]) (by kernel_rfl) (by kernel_rfl) (by rfl) (by decide) (by rfl) hM ?_ ?_
 ·
  intro i hl hi uu ww aa hJ hd hev hin
  clear hM
  obtain rfl | rfl | rfl | rfl | rfl | rfl | rfl | rfl | rfl | rfl | rfl : i = 0 ∨ i = 1 ∨ i = 2 ∨ i = 3 ∨ i = 4 ∨ i = 5 ∨ i = 6 ∨ i = 7 ∨ i = 8 ∨ i = 9 ∨ i = 10 := by omega
  ·
   exact .inr ⟨rfl, fun K' hK => wp_move (.tmp 0) rfl (eval_tmp ((hev 0 (by decide)).trans rfl)) (hK _ _ hJ rfl veL_same)⟩
  ·
   exact .inr ⟨rfl, fun K' hK => wp_move (.tmp 1) rfl (eval_tmp ((hev 1 (by decide)).trans rfl)) (hK _ _ hJ rfl veL_same)⟩
  ·
   have x11 : aa.tmps[11]? = some (.int .i64 0) := ((hin 0 11 rfl).trans (congrArg some (show uu 0 = .int .i64 0 from hd 0 (by decide) (by kernel_rfl))))
   have x12 : aa.tmps[12]? = some (.int .i64 2) := ((hin 1 12 rfl).trans (congrArg some (show uu 1 = .int .i64 2 from hd 1 (by decide) (by kernel_rfl))))
   clear hd hev hin
   simp only [zzA, zzB]
   clear hl
   refine .inr ⟨rfl, fun K' hK => ?_⟩
   have HK := Lib.hid hK
   clear hK
   go_simp
   exact HK.out (.int .i64 0) _ hJ rfl veL_same
  ·
   exact .inr ⟨rfl, fun K' hK => wp_ixa 25 (.tmp 2) (.tmp 13) rfl (eval_tmp ((hev 2 (by decide)).trans rfl)) (eval_tmp ((hin 2 13 rfl).trans (congrArg some (show uu 2 = .int .i64 0 from hd 2 (by decide) (by kernel_rfl))))) (fun _ => by kernel_rfl) (hK _ _ hJ rfl veL_same)⟩
  ·
   exact .inr ⟨rfl, fun K' hK => wp_load 23 (.tmp 14) rfl b 0 3 (cV w_) (cS w_.x) 25 (hb.below hJ.es.below) (eval_tmp ((hin 3 14 rfl).trans (congrArg some (show uu 3 = .pointer (some ⟨b, 0, none⟩) from hd 3 (by decide) (by kernel_rfl))))) ag23 sz23 (zzF (by kernel_rfl)) (by kernel_rfl) (hK _ _ hJ rfl veL_same)⟩
  ·
   exact .inr ⟨rfl, fun K' hK => wp_move (.tmp 0) rfl (eval_tmp ((hev 0 (by decide)).trans rfl)) (hK _ _ hJ rfl veL_same)⟩
  ·
   exact .inr ⟨rfl, fun K' hK => wp_move (.tmp 1) rfl (eval_tmp ((hev 1 (by decide)).trans rfl)) (hK _ _ hJ rfl veL_same)⟩
  ·
   have x16 : aa.tmps[16]? = some (.int .i64 0) := ((hin 5 16 rfl).trans (congrArg some (show uu 5 = .int .i64 0 from hd 5 (by decide) (by kernel_rfl))))
   have x17 : aa.tmps[17]? = some (.int .i64 2) := ((hin 6 17 rfl).trans (congrArg some (show uu 6 = .int .i64 2 from hd 6 (by decide) (by kernel_rfl))))
   clear hd hev hin
   simp only [zzA, zzB]
   clear hl
   refine .inr ⟨rfl, fun K' hK => ?_⟩
   have HK := Lib.hid hK
   clear hK
   go_simp
   exact HK.out (.int .i64 2) _ hJ rfl veL_same
  ·
   exact .inr ⟨rfl, fun K' hK => wp_ixa 25 (.tmp 2) (.tmp 18) rfl (eval_tmp ((hev 2 (by decide)).trans rfl)) (eval_tmp ((hin 7 18 rfl).trans (congrArg some (show uu 7 = .int .i64 2 from hd 7 (by decide) (by kernel_rfl))))) (fun _ => by kernel_rfl) (hK _ _ hJ rfl veL_same)⟩
  ·
   exact .inr ⟨rfl, fun K' hK => wp_load 23 (.tmp 19) rfl b 6 3 (cV w_) (cS w_.z) 25 (hb.below hJ.es.below) (eval_tmp ((hin 8 19 rfl).trans (congrArg some (show uu 8 = .pointer (some ⟨b, 6, none⟩) from hd 8 (by decide) (by kernel_rfl))))) ag23 sz23 (zzF (by kernel_rfl)) (by kernel_rfl) (hK _ _ hJ rfl veL_same)⟩
  ·
   exact .inr ⟨rfl, fun K' hK => wp_callv (.func 42) #[.tmp 15, .tmp 20] _ 42 #[] #[.agg (cS w_.x), .agg (cS w_.z)] #[.agg (cS w_.x), .agg (cS w_.z)] rfl rfl (map2 (eval_tmp ((hin 4 15 rfl).trans (congrArg some (show uu 4 = .agg (cS w_.x) from hd 4 (by decide) (by kernel_rfl))))) (eval_tmp ((hin 9 20 rfl).trans (congrArg some (show uu 9 = .agg (cS w_.z) from hd 9 (by decide) (by kernel_rfl)))))) (by kernel_rfl) (fun _ _ => by kernel_rfl) (sMul_any w_.x w_.z ww) (fun _ hB => (hK _ _ (hJ.later hB) rfl (veL_later hB)))⟩
 clear hM
 intro uu W2 hJm hd
 have e_0 : uu 0 = .int .i64 0 := hd 0 (by decide)
 have e_1 : uu 1 = .int .i64 2 := hd 1 (by decide)
 have e_2 : uu 2 = .int .i64 0 := hd 2 (by decide)
 have e_3 : uu 3 = .pointer (some ⟨b, 0, none⟩) := hd 3 (by decide)
 have e_4 : uu 4 = .agg (cS w_.x) := hd 4 (by decide)
 have e_5 : uu 5 = .int .i64 0 := hd 5 (by decide)
 have e_6 : uu 6 = .int .i64 2 := hd 6 (by decide)
 have e_7 : uu 7 = .int .i64 2 := hd 7 (by decide)
 have e_8 : uu 8 = .pointer (some ⟨b, 6, none⟩) := hd 8 (by decide)
 have e_9 : uu 9 = .agg (cS w_.z) := hd 9 (by decide)
 have e_10 : uu 10 = .agg (cS (mulS w_.x w_.z)) := hd 10 (by decide)
 clear hd
 simp only [layS, Act.put, zzC, zzD, zzE, Nat.zero_add, Nat.reduceAdd, List.drop_succ_cons, List.drop_zero, List.drop_nil, e_0, e_1, e_2, e_3, e_4, e_5, e_6, e_7, e_8, e_9, e_10]
 clear e_0 e_1 e_2 e_3 e_4 e_5 e_6 e_7 e_8 e_9 e_10
 have hJ2 := hJm.es
 clear hJm
 go_wp2_with (refine stop_store 23 (.tmp 5) (.tmp 21) 0 bk1 0 (cS zS) 23 3 (cS (mulS w_.x w_.z)).toList (cS (mulS w_.x w_.z)) [(bk1, (cS (mulS w_.x w_.z)), 23)] rfl rfl rfl rfl sz23 hJ2 rfl (by kernel_rfl) (zzF (by kernel_rfl)) (by kernel_rfl) (by kernel_rfl) (by kernel_rfl) (fun W3 hJ3 => ?_))
 clear hJ2
 unfold Stop
 try simp only [Act.put, zzC, zzD, zzE]
 go_wp2
 exact bodyPost_ret (v := .agg (cS (mulS w_.x w_.z))) (results_cell 0 Tryz.results64 hJ3 rfl ag23 sz23 (zzF (by kernel_rfl)) rfl (by kernel_rfl)) rfl ⟨rfl, hJ3.below⟩
set_option maxRecDepth 100000 in
set_option maxHeartbeats 12800000 in
theorem tTwi10 (b : Nat) (w_ : Vc)  (w : World) (hb : Cl w (b, cV w_, 25))  : Calls Tryz.prog 64 #[.int .i64 1, .int .i64 0, .pointer (some ⟨b, 0, none⟩)] w (PVal (.agg (cS (mulS w_.x w_.y))) w) := by
 have hJ0 := es_nil w
 go_enter Tryz.func64, Tryz.ntmps64
 go_wp2_with (refine stop_alloc 23 (cS zS) (.agg (cS zS)) rfl rfl zv23 rfl hJ0 (fun bk1 W1 hJ1 => ?_))
 clear hJ0
 unfold Stop
 try simp only [Act.put, zzC, zzD, zzE]
 go_wp2
 obtain ⟨m2_1, hm⟩ : ∃ m, m = W1.heap.size := ⟨_, rfl⟩
 have hM := hJ1.em
 rw [← hm] at hM
 clear hm hJ1
 refine wp_region_z 11 [some 11, some 12, some 13, some 14, some 15, some 16, some 17, some 18, some 19, some 20, some 21] (veL m2_1 [.eq (.int .i64 1), .eq (.int .i64 0), .eq (.int .i64 0), .eq (.pointer (some ⟨b, 0, none⟩)), .eq (.agg (cS w_.x)), .eq (.int .i64 1), .eq (.int .i64 0), .eq (.int .i64 1), .eq (.pointer (some ⟨b, 3, none⟩)), .eq (.agg (cS w_.y)), .eq (.agg (cS (mulS w_.x w_.y)))]) (Em w m2_1 [(bk1, (cS zS), 23)]) (by kernel_rfl) (by kernel_rfl) (by rfl) (by decide) (by rfl) hM ?_ ?_
 ·
  intro i hl hi uu ww aa hJ hd hev hin
  clear hM
  obtain rfl | rfl | rfl | rfl | rfl | rfl | rfl | rfl | rfl | rfl | rfl : i = 0 ∨ i = 1 ∨ i = 2 ∨ i = 3 ∨ i = 4 ∨ i = 5 ∨ i = 6 ∨ i = 7 ∨ i = 8 ∨ i = 9 ∨ i = 10 := by omega
  ·
   exact .inr ⟨rfl, fun K' hK => wp_move (.tmp 0) rfl (eval_tmp ((hev 0 (by decide)).trans rfl)) (hK _ _ hJ rfl veL_same)⟩
  ·
   exact .inr ⟨rfl, fun K' hK => wp_move (.tmp 1) rfl (eval_tmp ((hev 1 (by decide)).trans rfl)) (hK _ _ hJ rfl veL_same)⟩
  ·
   have x11 : aa.tmps[11]? = some (.int .i64 1) := ((hin 0 11 rfl).trans (congrArg some (show uu 0 = .int .i64 1 from hd 0 (by decide) (by kernel_rfl))))
   have x12 : aa.tmps[12]? = some (.int .i64 0) := ((hin 1 12 rfl).trans (congrArg some (show uu 1 = .int .i64 0 from hd 1 (by decide) (by kernel_rfl))))
   clear hd hev hin
   simp only [zzA, zzB]
   clear hl
   refine .inr ⟨rfl, fun K' hK => ?_⟩
   have HK := Lib.hid hK
   clear hK
   go_simp
   exact HK.out (.int .i64 0) _ hJ rfl veL_same
  ·
   exact .inr ⟨rfl, fun K' hK => wp_ixa 25 (.tmp 2) (.tmp 13) rfl (eval_tmp ((hev 2 (by decide)).trans rfl)) (eval_tmp ((hin 2 13 rfl).trans (congrArg some (show uu 2 = .int .i64 0 from hd 2 (by decide) (by kernel_rfl))))) (fun _ => by kernel_rfl) (hK _ _ hJ rfl veL_same)⟩
  ·
   exact .inr ⟨rfl, fun K' hK => wp_load 23 (.tmp 14) rfl b 0 3 (cV w_) (cS w_.x) 25 (hb.below hJ.es.below) (eval_tmp ((hin 3 14 rfl).trans (congrArg some (show uu 3 = .pointer (some ⟨b, 0, none⟩) from hd 3 (by decide) (by kernel_rfl))))) ag23 sz23 (zzF (by kernel_rfl)) (by kernel_rfl) (hK _ _ hJ rfl veL_same)⟩
  ·
   exact .inr ⟨rfl, fun K' hK => wp_move (.tmp 0) rfl (eval_tmp ((hev 0 (by decide)).trans rfl)) (hK _ _ hJ rfl veL_same)⟩
  ·
   exact .inr ⟨rfl, fun K' hK => wp_move (.tmp 1) rfl (eval_tmp ((hev 1 (by decide)).trans rfl)) (hK _ _ hJ rfl veL_same)⟩
  ·
   have x16 : aa.tmps[16]? = some (.int .i64 1) := ((hin 5 16 rfl).trans (congrArg some (show uu 5 = .int .i64 1 from hd 5 (by decide) (by kernel_rfl))))
   have x17 : aa.tmps[17]? = some (.int .i64 0) := ((hin 6 17 rfl).trans (congrArg some (show uu 6 = .int .i64 0 from hd 6 (by decide) (by kernel_rfl))))
   clear hd hev hin
   simp only [zzA, zzB]
   clear hl
   refine .inr ⟨rfl, fun K' hK => ?_⟩
   have HK := Lib.hid hK
   clear hK
   go_simp
   exact HK.out (.int .i64 1) _ hJ rfl veL_same
  ·
   exact .inr ⟨rfl, fun K' hK => wp_ixa 25 (.tmp 2) (.tmp 18) rfl (eval_tmp ((hev 2 (by decide)).trans rfl)) (eval_tmp ((hin 7 18 rfl).trans (congrArg some (show uu 7 = .int .i64 1 from hd 7 (by decide) (by kernel_rfl))))) (fun _ => by kernel_rfl) (hK _ _ hJ rfl veL_same)⟩
  ·
   exact .inr ⟨rfl, fun K' hK => wp_load 23 (.tmp 19) rfl b 3 3 (cV w_) (cS w_.y) 25 (hb.below hJ.es.below) (eval_tmp ((hin 8 19 rfl).trans (congrArg some (show uu 8 = .pointer (some ⟨b, 3, none⟩) from hd 8 (by decide) (by kernel_rfl))))) ag23 sz23 (zzF (by kernel_rfl)) (by kernel_rfl) (hK _ _ hJ rfl veL_same)⟩
  ·
   exact .inr ⟨rfl, fun K' hK => wp_callv (.func 42) #[.tmp 15, .tmp 20] _ 42 #[] #[.agg (cS w_.x), .agg (cS w_.y)] #[.agg (cS w_.x), .agg (cS w_.y)] rfl rfl (map2 (eval_tmp ((hin 4 15 rfl).trans (congrArg some (show uu 4 = .agg (cS w_.x) from hd 4 (by decide) (by kernel_rfl))))) (eval_tmp ((hin 9 20 rfl).trans (congrArg some (show uu 9 = .agg (cS w_.y) from hd 9 (by decide) (by kernel_rfl)))))) (by kernel_rfl) (fun _ _ => by kernel_rfl) (sMul_any w_.x w_.y ww) (fun _ hB => (hK _ _ (hJ.later hB) rfl (veL_later hB)))⟩
 clear hM
 intro uu W2 hJm hd
 have e_0 : uu 0 = .int .i64 1 := hd 0 (by decide)
 have e_1 : uu 1 = .int .i64 0 := hd 1 (by decide)
 have e_2 : uu 2 = .int .i64 0 := hd 2 (by decide)
 have e_3 : uu 3 = .pointer (some ⟨b, 0, none⟩) := hd 3 (by decide)
 have e_4 : uu 4 = .agg (cS w_.x) := hd 4 (by decide)
 have e_5 : uu 5 = .int .i64 1 := hd 5 (by decide)
 have e_6 : uu 6 = .int .i64 0 := hd 6 (by decide)
 have e_7 : uu 7 = .int .i64 1 := hd 7 (by decide)
 have e_8 : uu 8 = .pointer (some ⟨b, 3, none⟩) := hd 8 (by decide)
 have e_9 : uu 9 = .agg (cS w_.y) := hd 9 (by decide)
 have e_10 : uu 10 = .agg (cS (mulS w_.x w_.y)) := hd 10 (by decide)
 clear hd
 simp only [layS, Act.put, zzC, zzD, zzE, Nat.zero_add, Nat.reduceAdd, List.drop_succ_cons, List.drop_zero, List.drop_nil, e_0, e_1, e_2, e_3, e_4, e_5, e_6, e_7, e_8, e_9, e_10]
 clear e_0 e_1 e_2 e_3 e_4 e_5 e_6 e_7 e_8 e_9 e_10
 have hJ2 := hJm.es
 clear hJm
 go_wp2_with (refine stop_store 23 (.tmp 5) (.tmp 21) 0 bk1 0 (cS zS) 23 3 (cS (mulS w_.x w_.y)).toList (cS (mulS w_.x w_.y)) [(bk1, (cS (mulS w_.x w_.y)), 23)] rfl rfl rfl rfl sz23 hJ2 rfl (by kernel_rfl) (zzF (by kernel_rfl)) (by kernel_rfl) (by kernel_rfl) (by kernel_rfl) (fun W3 hJ3 => ?_))
 clear hJ2
 unfold Stop
 try simp only [Act.put, zzC, zzD, zzE]
 go_wp2
 exact bodyPost_ret (v := .agg (cS (mulS w_.x w_.y))) (results_cell 0 Tryz.results64 hJ3 rfl ag23 sz23 (zzF (by kernel_rfl)) rfl (by kernel_rfl)) rfl ⟨rfl, hJ3.below⟩
set_option maxRecDepth 100000 in
set_option maxHeartbeats 12800000 in
theorem tTwi11 (b : Nat) (w_ : Vc)  (w : World) (hb : Cl w (b, cV w_, 25))  : Calls Tryz.prog 64 #[.int .i64 1, .int .i64 1, .pointer (some ⟨b, 0, none⟩)] w (PVal (.agg (cS (negS (addS (sqrS w_.x) (sqrS w_.z))))) w) := by
 have hJ0 := es_nil w
 go_enter Tryz.func64, Tryz.ntmps64
 go_wp2_with (refine stop_alloc 23 (cS zS) (.agg (cS zS)) rfl rfl zv23 rfl hJ0 (fun bk1 W1 hJ1 => ?_))
 clear hJ0
 unfold Stop
 try simp only [Act.put, zzC, zzD, zzE]
 go_wp2
 obtain ⟨m3_1, hm⟩ : ∃ m, m = W1.heap.size := ⟨_, rfl⟩
 have hM : ∀ uu, Jz w m3_1 [(bk1, (cS zS), 23)] [(18, 3, 23), (19, 3, 23)] [(20, 18, (cS w_.x), 23), (21, 19, (cS w_.z), 23)] (fun _ => false) uu W1.drew := fun uu => by rw [hm]; exact Jz.start hJ1 uu
 clear hm hJ1
 refine wp_region_y 22 [some 22, some 23, some 24, some 25, some 26, some 27, some 28, some 29, some 30, some 31, some 32, some 33, some 34, some 35, some 36, some 37, some 38, some 39, some 6, some 7, none, none] (veL m3_1 [.eq (.int .i64 1), .eq (.int .i64 2), .eq (.int .i64 2), .eq (.int .i64 1), .eq (.int .i64 3), .eq (.int .i64 0), .eq (.int .i64 0), .eq (.pointer (some ⟨b, 0, none⟩)), .eq (.agg (cS w_.x)), .eq (.int .i64 1), .eq (.int .i64 2), .eq (.int .i64 2), .eq (.int .i64 1), .eq (.int .i64 3), .eq (.int .i64 0), .eq (.int .i64 2), .eq (.pointer (some ⟨b, 6, none⟩)), .eq (.agg (cS w_.z)), .any, .any, .any, .any]) (Jz w m3_1 [(bk1, (cS zS), 23)] [(18, 3, 23), (19, 3, 23)] [(20, 18, (cS w_.x), 23), (21, 19, (cS w_.z), 23)]) (by kernel_rfl) (by kernel_rfl) (by rfl) (by decide) (by rfl) hM ?_ ?_
 ·
  intro i hl hi LL uu ww aa hLi hJ hd hev hin
  clear hM
  obtain rfl | rfl | rfl | rfl | rfl | rfl | rfl | rfl | rfl | rfl | rfl | rfl | rfl | rfl | rfl | rfl | rfl | rfl | rfl | rfl | rfl | rfl : i = 0 ∨ i = 1 ∨ i = 2 ∨ i = 3 ∨ i = 4 ∨ i = 5 ∨ i = 6 ∨ i = 7 ∨ i = 8 ∨ i = 9 ∨ i = 10 ∨ i = 11 ∨ i = 12 ∨ i = 13 ∨ i = 14 ∨ i = 15 ∨ i = 16 ∨ i = 17 ∨ i = 18 ∨ i = 19 ∨ i = 20 ∨ i = 21 := by omega
  ·
   exact .inr ⟨rfl, fun K' hK => wp_move (.tmp 0) rfl (eval_tmp ((hev 0 (by decide)).trans rfl)) (hK _ _ (hJ.grow hLi (by simp) (by simp) (Below.refl _ _)) rfl veL_same)⟩
  ·
   have x22 : aa.tmps[22]? = some (.int .i64 1) := ((hin 0 22 rfl).trans (congrArg some (show uu 0 = .int .i64 1 from (hd 0 (by decide) (by kernel_rfl)).2)))
   clear hd hev hin
   simp only [zzA, zzB]
   clear hl
   refine .inr ⟨rfl, fun K' hK => ?_⟩
   have HK := Lib.hid hK
   clear hK
   go_simp
   exact HK.out (.int .i64 2) _ (hJ.grow hLi (by simp) (by simp) (Below.refl _ _)) rfl veL_same
  ·
   have x23 : aa.tmps[23]? = some (.int .i64 2) := ((hin 1 23 rfl).trans (congrArg some (show uu 1 = .int .i64 2 from (hd 1 (by decide) (by kernel_rfl)).2)))
   clear hd hev hin
   simp only [zzA, zzB]
   clear hl
   refine .inr ⟨rfl, fun K' hK => ?_⟩
   have HK := Lib.hid hK
   clear hK
   go_simp
   exact HK.out (.int .i64 2) _ (hJ.grow hLi (by simp) (by simp) (Below.refl _ _)) rfl veL_same
  ·
   exact .inr ⟨rfl, fun K' hK => wp_move (.tmp 0) rfl (eval_tmp ((hev 0 (by decide)).trans rfl)) (hK _ _ (hJ.grow hLi (by simp) (by simp) (Below.refl _ _)) rfl veL_same)⟩
  ·
   have x25 : aa.tmps[25]? = some (.int .i64 1) := ((hin 3 25 rfl).trans (congrArg some (show uu 3 = .int .i64 1 from (hd 3 (by decide) (by kernel_rfl)).2)))
   clear hd hev hin
   simp only [zzA, zzB]
   clear hl
   refine .inr ⟨rfl, fun K' hK => ?_⟩
   have HK := Lib.hid hK
   clear hK
   go_simp
   exact HK.out (.int .i64 3) _ (hJ.grow hLi (by simp) (by simp) (Below.refl _ _)) rfl veL_same
  ·
   have x26 : aa.tmps[26]? = some (.int .i64 3) := ((hin 4 26 rfl).trans (congrArg some (show uu 4 = .int .i64 3 from (hd 4 (by decide) (by kernel_rfl)).2)))
   clear hd hev hin
   simp only [zzA, zzB]
   clear hl
   refine .inr ⟨rfl, fun K' hK => ?_⟩
   have HK := Lib.hid hK
   clear hK
   go_simp
   exact HK.out (.int .i64 0) _ (hJ.grow hLi (by simp) (by simp) (Below.refl _ _)) rfl veL_same
  ·
   have x24 : aa.tmps[24]? = some (.int .i64 2) := ((hin 2 24 rfl).trans (congrArg some (show uu 2 = .int .i64 2 from (hd 2 (by decide) (by kernel_rfl)).2)))
   have x27 : aa.tmps[27]? = some (.int .i64 0) := ((hin 5 27 rfl).trans (congrArg some (show uu 5 = .int .i64 0 from (hd 5 (by decide) (by kernel_rfl)).2)))
   clear hd hev hin
   simp only [zzA, zzB]
   clear hl
   refine .inr ⟨rfl, fun K' hK => ?_⟩
   have HK := Lib.hid hK
   clear hK
   go_simp
   exact HK.out (.int .i64 0) _ (hJ.grow hLi (by simp) (by simp) (Below.refl _ _)) rfl veL_same
  ·
   exact .inr ⟨rfl, fun K' hK => wp_ixa 25 (.tmp 2) (.tmp 28) rfl (eval_tmp ((hev 2 (by decide)).trans rfl)) (eval_tmp ((hin 6 28 rfl).trans (congrArg some (show uu 6 = .int .i64 0 from (hd 6 (by decide) (by kernel_rfl)).2)))) (fun _ => by kernel_rfl) (hK _ _ (hJ.grow hLi (by simp) (by simp) (Below.refl _ _)) rfl veL_same)⟩
  ·
   exact .inr ⟨rfl, fun K' hK => wp_load 23 (.tmp 29) rfl b 0 3 (cV w_) (cS w_.x) 25 (hb.below hJ.em.es.below) (eval_tmp ((hin 7 29 rfl).trans (congrArg some (show uu 7 = .pointer (some ⟨b, 0, none⟩) from (hd 7 (by decide) (by kernel_rfl)).2)))) ag23 sz23 (zzF (by kernel_rfl)) (by kernel_rfl) (hK _ _ (hJ.grow hLi (by simp) (by simp) (Below.refl _ _)) rfl veL_same)⟩
  ·
   exact .inr ⟨rfl, fun K' hK => wp_move (.tmp 0) rfl (eval_tmp ((hev 0 (by decide)).trans rfl)) (hK _ _ (hJ.grow hLi (by simp) (by simp) (Below.refl _ _)) rfl veL_same)⟩
  ·
   have x31 : aa.tmps[31]? = some (.int .i64 1) := ((hin 9 31 rfl).trans (congrArg some (show uu 9 = .int .i64 1 from (hd 9 (by decide) (by kernel_rfl)).2)))
   clear hd hev hin
   simp only [zzA, zzB]
   clear hl
   refine .inr ⟨rfl, fun K' hK => ?_⟩
   have HK := Lib.hid hK
   clear hK
   go_simp
   exact HK.out (.int .i64 2) _ (hJ.grow hLi (by simp) (by simp) (Below.refl _ _)) rfl veL_same
  ·
   have x32 : aa.tmps[32]? = some (.int .i64 2) := ((hin 10 32 rfl).trans (congrArg some (show uu 10 = .int .i64 2 from (hd 10 (by decide) (by kernel_rfl)).2)))
   clear hd hev hin
   simp only [zzA, zzB]
   clear hl
   refine .inr ⟨rfl, fun K' hK => ?_⟩
   have HK := Lib.hid hK
   clear hK
   go_simp
   exact HK.out (.int .i64 2) _ (hJ.grow hLi (by simp) (by simp) (Below.refl _ _)) rfl veL_same
  ·
   exact .inr ⟨rfl, fun K' hK => wp_move (.tmp 0) rfl (eval_tmp ((hev 0 (by decide)).trans rfl)) (hK _ _ (hJ.grow hLi (by simp) (by simp) (Below.refl _ _)) rfl veL_same)⟩
  ·
   have x34 : aa.tmps[34]? = some (.int .i64 1) := ((hin 12 34 rfl).trans (congrArg some (show uu 12 = .int .i64 1 from (hd 12 (by decide) (by kernel_rfl)).2)))
   clear hd hev hin
   simp only [zzA, zzB]
   clear hl
   refine .inr ⟨rfl, fun K' hK => ?_⟩
   have HK := Lib.hid hK
   clear hK
   go_simp
   exact HK.out (.int .i64 3) _ (hJ.grow hLi (by simp) (by simp) (Below.refl _ _)) rfl veL_same
  ·
   have x35 : aa.tmps[35]? = some (.int .i64 3) := ((hin 13 35 rfl).trans (congrArg some (show uu 13 = .int .i64 3 from (hd 13 (by decide) (by kernel_rfl)).2)))
   clear hd hev hin
   simp only [zzA, zzB]
   clear hl
   refine .inr ⟨rfl, fun K' hK => ?_⟩
   have HK := Lib.hid hK
   clear hK
   go_simp
   exact HK.out (.int .i64 0) _ (hJ.grow hLi (by simp) (by simp) (Below.refl _ _)) rfl veL_same
  ·
   have x33 : aa.tmps[33]? = some (.int .i64 2) := ((hin 11 33 rfl).trans (congrArg some (show uu 11 = .int .i64 2 from (hd 11 (by decide) (by kernel_rfl)).2)))
   have x36 : aa.tmps[36]? = some (.int .i64 0) := ((hin 14 36 rfl).trans (congrArg some (show uu 14 = .int .i64 0 from (hd 14 (by decide) (by kernel_rfl)).2)))
   clear hd hev hin
   simp only [zzA, zzB]
   clear hl
   refine .inr ⟨rfl, fun K' hK => ?_⟩
   have HK := Lib.hid hK
   clear hK
   go_simp
   exact HK.out (.int .i64 2) _ (hJ.grow hLi (by simp) (by simp) (Below.refl _ _)) rfl veL_same
  ·
   exact .inr ⟨rfl, fun K' hK => wp_ixa 25 (.tmp 2) (.tmp 37) rfl (eval_tmp ((hev 2 (by decide)).trans rfl)) (eval_tmp ((hin 15 37 rfl).trans (congrArg some (show uu 15 = .int .i64 2 from (hd 15 (by decide) (by kernel_rfl)).2)))) (fun _ => by kernel_rfl) (hK _ _ (hJ.grow hLi (by simp) (by simp) (Below.refl _ _)) rfl veL_same)⟩
  ·
   exact .inr ⟨rfl, fun K' hK => wp_load 23 (.tmp 38) rfl b 6 3 (cV w_) (cS w_.z) 25 (hb.below hJ.em.es.below) (eval_tmp ((hin 16 38 rfl).trans (congrArg some (show uu 16 = .pointer (some ⟨b, 6, none⟩) from (hd 16 (by decide) (by kernel_rfl)).2)))) ag23 sz23 (zzF (by kernel_rfl)) (by kernel_rfl) (hK _ _ (hJ.grow hLi (by simp) (by simp) (Below.refl _ _)) rfl veL_same)⟩
  ·
   exact .inr ⟨rfl, fun K' hK => wp_alloc 23 rfl (.agg (cS zS)) zv23 (hK _ _ (hJ.alloc hLi (n := 3) rfl (by simp) (by simp)) trivial (veL_flat rfl))⟩
  ·
   exact .inr ⟨rfl, fun K' hK => wp_alloc 23 rfl (.agg (cS zS)) zv23 (hK _ _ (hJ.alloc hLi (n := 3) rfl (by simp) (by simp)) trivial (veL_flat rfl))⟩
  ·
   have hLa := (hd 18 (by decide) (by kernel_rfl)).1
   obtain ⟨kb, kC, ke, kge, ksz, kcl⟩ := hJ.bx (18, 3, 23) (by simp) hLa
   have x6 : aa.tmps[6]? = some (.pointer (some ⟨kb, 0, none⟩)) := (hin 18 6 rfl).trans (congrArg some ke)
   have x30 : aa.tmps[30]? = some (.agg (cS w_.x)) := ((hin 8 30 rfl).trans (congrArg some (show uu 8 = .agg (cS w_.x) from (hd 8 (by decide) (by kernel_rfl)).2)))
   clear hd hev hin
   simp only [zzA, zzB]
   clear hl
   refine .inr ⟨rfl, fun K' hK => ?_⟩
   have HK := Lib.hid hK
   clear hK
   refine wp_store 23 (.tmp 6) (.tmp 30) rfl 0 kb 0 kC 23 3 (cS w_.x).toList (hJ.em.join kge kcl) rfl (eval_tmp x6) (by rw [eval_tmp x30]; rfl) sz23 (by kernel_rfl) (by rw [ksz]; decide) (by kernel_rfl) (fun ww2 hE hk hz => ?_)
   rw [putC_full (show kC.size = (cS w_.x).toList.length from ksz), Array.toArray_toList] at hE
   exact HK.out undef _ (hJ.store (a := 18) (n := 3) (T := 23) (Cn := (cS w_.x)) hLi (by simp) (by simp) (by simp) (by simp) (by simp) (by simp) hLa ke kge rfl hE hk hz) trivial (veL_flat rfl)
  ·
   have hLa := (hd 19 (by decide) (by kernel_rfl)).1
   obtain ⟨kb, kC, ke, kge, ksz, kcl⟩ := hJ.bx (19, 3, 23) (by simp) hLa
   have x7 : aa.tmps[7]? = some (.pointer (some ⟨kb, 0, none⟩)) := (hin 19 7 rfl).trans (congrArg some ke)
   have x39 : aa.tmps[39]? = some (.agg (cS w_.z)) := ((hin 17 39 rfl).trans (congrArg some (show uu 17 = .agg (cS w_.z) from (hd 17 (by decide) (by kernel_rfl)).2)))
   clear hd hev hin
   simp only [zzA, zzB]
   clear hl
   refine .inr ⟨rfl, fun K' hK => ?_⟩
   have HK := Lib.hid hK
   clear hK
   refine wp_store 23 (.tmp 7) (.tmp 39) rfl 0 kb 0 kC 23 3 (cS w_.z).toList (hJ.em.join kge kcl) rfl (eval_tmp x7) (by rw [eval_tmp x39]; rfl) sz23 (by kernel_rfl) (by rw [ksz]; decide) (by kernel_rfl) (fun ww2 hE hk hz => ?_)
   rw [putC_full (show kC.size = (cS w_.z).toList.length from ksz), Array.toArray_toList] at hE
   exact HK.out undef _ (hJ.store (a := 19) (n := 3) (T := 23) (Cn := (cS w_.z)) hLi (by simp) (by simp) (by simp) (by simp) (by simp) (by simp) hLa ke kge rfl hE hk hz) trivial (veL_flat rfl)
 clear hM
 intro LL uu W2 hLL hJm hd
 have e_0 : uu 0 = .int .i64 1 := hd 0 (by decide)
 have e_1 : uu 1 = .int .i64 2 := hd 1 (by decide)
 have e_2 : uu 2 = .int .i64 2 := hd 2 (by decide)
 have e_3 : uu 3 = .int .i64 1 := hd 3 (by decide)
 have e_4 : uu 4 = .int .i64 3 := hd 4 (by decide)
 have e_5 : uu 5 = .int .i64 0 := hd 5 (by decide)
 have e_6 : uu 6 = .int .i64 0 := hd 6 (by decide)
 have e_7 : uu 7 = .pointer (some ⟨b, 0, none⟩) := hd 7 (by decide)
 have e_8 : uu 8 = .agg (cS w_.x) := hd 8 (by decide)
 have e_9 : uu 9 = .int .i64 1 := hd 9 (by decide)
 have e_10 : uu 10 = .int .i64 2 := hd 10 (by decide)
 have e_11 : uu 11 = .int .i64 2 := hd 11 (by decide)
 have e_12 : uu 12 = .int .i64 1 := hd 12 (by decide)
 have e_13 : uu 13 = .int .i64 3 := hd 13 (by decide)
 have e_14 : uu 14 = .int .i64 0 := hd 14 (by decide)
 have e_15 : uu 15 = .int .i64 2 := hd 15 (by decide)
 have e_16 : uu 16 = .pointer (some ⟨b, 6, none⟩) := hd 16 (by decide)
 have e_17 : uu 17 = .agg (cS w_.z) := hd 17 (by decide)
 obtain ⟨bk2, kC18, e_18, nge18, ksz18, nB18⟩ := hJm.bx (18, 3, 23) (by simp) (hLL 18 (by decide))
 obtain ⟨bk3, kC19, e_19, nge19, ksz19, nB19⟩ := hJm.bx (19, 3, 23) (by simp) (hLL 19 (by decide))
 obtain ⟨_, kb20, ke20, kl20⟩ := hJm.st (20, 18, (cS w_.x), 23) (by simp) (hLL 20 (by decide))
 have kq20 : kb20 = bk2 := by
  have hq := ke20.symm.trans e_18
  injection hq with hq
  injection hq with hq
  injection hq with hq
 subst kq20
 clear ke20
 obtain ⟨_, kb21, ke21, kl21⟩ := hJm.st (21, 19, (cS w_.z), 23) (by simp) (hLL 21 (by decide))
 have kq21 : kb21 = bk3 := by
  have hq := ke21.symm.trans e_19
  injection hq with hq
  injection hq with hq
  injection hq with hq
 subst kq21
 clear ke21
 have g18 := hJm.em.join nge18 kl20
 have g19 : Es w W2 _ := Es.join g18 (Nat.le_trans hJm.em.ge nge19) (by
  intro p hp
  rcases List.mem_cons.1 hp with rfl | hp
  ·
   intro hc
   refine hJm.ne (18, 3, 23) (19, 3, 23) (by simp) (by simp) (by decide) (hLL 18 (by decide)) (hLL 19 (by decide)) ?_
   rw [e_18, e_19]
   exact congrArg (fun k => Value.pointer (some ⟨k, 0, none⟩)) hc
  have h1 := hJm.em.lt p hp
  have h2 := nge19
  omega) kl21
 clear hd hLL
 simp only [layS, Act.put, zzC, zzD, zzE, Nat.zero_add, Nat.reduceAdd, List.drop_succ_cons, List.drop_zero, List.drop_nil, e_0, e_1, e_2, e_3, e_4, e_5, e_6, e_7, e_8, e_9, e_10, e_11, e_12, e_13, e_14, e_15, e_16, e_17, e_18, e_19]
 have hJ2 := g19
 clear hJm e_0 e_1 e_2 e_3 e_4 e_5 e_6 e_7 e_8 e_9 e_10 e_11 e_12 e_13 e_14 e_15 e_16 e_17 e_18 e_19 nge18 nB18 ksz18 g18 nge19 nB19 ksz19 g19
 go_wp2
 obtain ⟨m4_2, hm⟩ : ∃ m, m = W2.heap.size := ⟨_, rfl⟩
 have hM := hJ2.em
 rw [← hm] at hM
 clear hm hJ2
 refine wp_region_z 6 [some 40, some 41, some 42, some 43, some 44, some 45] (veL m4_2 [.eq (.agg (cS w_.x)), .eq (.agg (cS (sqrS w_.x))), .eq (.agg (cS w_.z)), .eq (.agg (cS (sqrS w_.z))), .eq (.agg (cS (addS (sqrS w_.x) (sqrS w_.z)))), .eq (.agg (cS (negS (addS (sqrS w_.x) (sqrS w_.z)))))]) (Em w m4_2 [(kb21, (cS w_.z), 23), (kb20, (cS w_.x), 23), (bk1, (cS zS), 23)]) (by kernel_rfl) (by kernel_rfl) (by rfl) (by decide) (by rfl) hM ?_ ?_
 ·
  intro i hl hi uu ww aa hJ hd hev hin
  clear hM
  obtain rfl | rfl | rfl | rfl | rfl | rfl : i = 0 ∨ i = 1 ∨ i = 2 ∨ i = 3 ∨ i = 4 ∨ i = 5 := by omega
  ·
   exact .inr ⟨rfl, fun K' hK => wp_load 23 (.tmp 6) rfl kb20 0 3 (cS w_.x) (cS w_.x) 23 (hJ.es.at' _ (zzG (i := 1) rfl)) (eval_tmp ((hev 6 (by decide)).trans rfl)) ag23 sz23 (zzF (by kernel_rfl)) (by kernel_rfl) (hK _ _ hJ rfl veL_same)⟩
  ·
   exact .inr ⟨rfl, fun K' hK => wp_callv (.func 60) #[.tmp 40] _ 60 #[] #[.agg (cS w_.x)] #[.agg (cS w_.x)] rfl rfl (map1 (eval_tmp ((hin 0 40 rfl).trans (congrArg some (show uu 0 = .agg (cS w_.x) from hd 0 (by decide) (by kernel_rfl)))))) (by kernel_rfl) (fun _ _ => by kernel_rfl) (sSqr_any w_.x ww) (fun _ hB => (hK _ _ (hJ.later hB) rfl (veL_later hB)))⟩
  ·
   exact .inr ⟨rfl, fun K' hK => wp_load 23 (.tmp 7) rfl kb21 0 3 (cS w_.z) (cS w_.z) 23 (hJ.es.at' _ (zzG (i := 0) rfl)) (eval_tmp ((hev 7 (by decide)).trans rfl)) ag23 sz23 (zzF (by kernel_rfl)) (by kernel_rfl) (hK _ _ hJ rfl veL_same)⟩
  ·
   exact .inr ⟨rfl, fun K' hK => wp_callv (.func 60) #[.tmp 42] _ 60 #[] #[.agg (cS w_.z)] #[.agg (cS w_.z)] rfl rfl (map1 (eval_tmp ((hin 2 42 rfl).trans (congrArg some (show uu 2 = .agg (cS w_.z) from hd 2 (by decide) (by kernel_rfl)))))) (by kernel_rfl) (fun _ _ => by kernel_rfl) (sSqr_any w_.z ww) (fun _ hB => (hK _ _ (hJ.later hB) rfl (veL_later hB)))⟩
  ·
   exact .inr ⟨rfl, fun K' hK => wp_callv (.func 41) #[.tmp 41, .tmp 43] _ 41 #[] #[.agg (cS (sqrS w_.x)), .agg (cS (sqrS w_.z))] #[.agg (cS (sqrS w_.x)), .agg (cS (sqrS w_.z))] rfl rfl (map2 (eval_tmp ((hin 1 41 rfl).trans (congrArg some (show uu 1 = .agg (cS (sqrS w_.x)) from hd 1 (by decide) (by kernel_rfl))))) (eval_tmp ((hin 3 43 rfl).trans (congrArg some (show uu 3 = .agg (cS (sqrS w_.z)) from hd 3 (by decide) (by kernel_rfl)))))) (by kernel_rfl) (fun _ _ => by kernel_rfl) (sAdd_any (sqrS w_.x) (sqrS w_.z) ww) (fun _ hB => (hK _ _ (hJ.later hB) rfl (veL_later hB)))⟩
  ·
   exact .inr ⟨rfl, fun K' hK => wp_callv (.func 63) #[.tmp 44] _ 63 #[] #[.agg (cS (addS (sqrS w_.x) (sqrS w_.z)))] #[.agg (cS (addS (sqrS w_.x) (sqrS w_.z)))] rfl rfl (map1 (eval_tmp ((hin 4 44 rfl).trans (congrArg some (show uu 4 = .agg (cS (addS (sqrS w_.x) (sqrS w_.z))) from hd 4 (by decide) (by kernel_rfl)))))) (by kernel_rfl) (fun _ _ => by kernel_rfl) (sNeg_any (addS (sqrS w_.x) (sqrS w_.z)) ww) (fun _ hB => (hK _ _ (hJ.later hB) rfl (veL_later hB)))⟩
 clear hM
 intro uu W3 hJm hd
 have e_0 : uu 0 = .agg (cS w_.x) := hd 0 (by decide)
 have e_1 : uu 1 = .agg (cS (sqrS w_.x)) := hd 1 (by decide)
 have e_2 : uu 2 = .agg (cS w_.z) := hd 2 (by decide)
 have e_3 : uu 3 = .agg (cS (sqrS w_.z)) := hd 3 (by decide)
 have e_4 : uu 4 = .agg (cS (addS (sqrS w_.x) (sqrS w_.z))) := hd 4 (by decide)
 have e_5 : uu 5 = .agg (cS (negS (addS (sqrS w_.x) (sqrS w_.z)))) := hd 5 (by decide)
 clear hd
 simp only [layS, Act.put, zzC, zzD, zzE, Nat.zero_add, Nat.reduceAdd, List.drop_succ_cons, List.drop_zero, List.drop_nil, e_0, e_1, e_2, e_3, e_4, e_5]
 clear e_0 e_1 e_2 e_3 e_4 e_5
 have hJ3 := hJm.es
 clear hJm
 go_wp2_with (refine stop_store 23 (.tmp 5) (.tmp 45) 2 bk1 0 (cS zS) 23 3 (cS (negS (addS (sqrS w_.x) (sqrS w_.z)))).toList (cS (negS (addS (sqrS w_.x) (sqrS w_.z)))) [(kb21, (cS w_.z), 23), (kb20, (cS w_.x), 23), (bk1, (cS (negS (addS (sqrS w_.x) (sqrS w_.z)))), 23)] rfl rfl rfl rfl sz23 hJ3 rfl (by kernel_rfl) (zzF (by kernel_rfl)) (by kernel_rfl) (by kernel_rfl) (by kernel_rfl) (fun W4 hJ4 => ?_))
 clear hJ3
 unfold Stop
 try simp only [Act.put, zzC, zzD, zzE]
 go_wp2
 exact bodyPost_ret (v := .agg (cS (negS (addS (sqrS w_.x) (sqrS w_.z))))) (results_cell 2 Tryz.results64 hJ4 rfl ag23 sz23 (zzF (by kernel_rfl)) rfl (by kernel_rfl)) rfl ⟨rfl, hJ4.below⟩
set_option maxRecDepth 100000 in
set_option maxHeartbeats 12800000 in
theorem tTwi12 (b : Nat) (w_ : Vc)  (w : World) (hb : Cl w (b, cV w_, 25))  : Calls Tryz.prog 64 #[.int .i64 1, .int .i64 2, .pointer (some ⟨b, 0, none⟩)] w (PVal (.agg (cS (mulS w_.y w_.z))) w) := by
 have hJ0 := es_nil w
 go_enter Tryz.func64, Tryz.ntmps64
 go_wp2_with (refine stop_alloc 23 (cS zS) (.agg (cS zS)) rfl rfl zv23 rfl hJ0 (fun bk1 W1 hJ1 => ?_))
 clear hJ0
 unfold Stop
 try simp only [Act.put, zzC, zzD, zzE]
 go_wp2
 obtain ⟨m2_1, hm⟩ : ∃ m, m = W1.heap.size := ⟨_, rfl⟩
 have hM := hJ1.em
 rw [← hm] at hM
 clear hm hJ1
 refine wp_region_z 11 [some 11, some 12, some 13, some 14, some 15, some 16, some 17, some 18, some 19, some 20, some 21] (veL m2_1 [.eq (.int .i64 1), .eq (.int .i64 2), .eq (.int .i64 1), .eq (.pointer (some ⟨b, 3, none⟩)), .eq (.agg (cS w_.y)), .eq (.int .i64 1), .eq (.int .i64 2), .eq (.int .i64 2), .eq (.pointer (some ⟨b, 6, none⟩)), .eq (.agg (cS w_.z)), .eq (.agg (cS (mulS w_.y w_.z)))]) (Em w m2_1 [(bk1, (cS zS), 23)]) (by kernel_rfl) (by kernel_rfl) (by rfl) (by decide) (by rfl) hM ?_ ?_
 ·
  intro i hl hi uu ww aa hJ hd hev hin
  clear hM
  obtain rfl | rfl | rfl | rfl | rfl | rfl | rfl | rfl | rfl | rfl | rfl : i = 0 ∨ i = 1 ∨ i = 2 ∨ i = 3 ∨ i = 4 ∨ i = 5 ∨ i = 6 ∨ i = 7 ∨ i = 8 ∨ i = 9 ∨ i = 10 := by omega
  ·
   exact .inr ⟨rfl, fun K' hK => wp_move (.tmp 0) rfl (eval_tmp ((hev 0 (by decide)).trans rfl)) (hK _ _ hJ rfl veL_same)⟩
  ·
   exact .inr ⟨rfl, fun K' hK => wp_move (.tmp 1) rfl (eval_tmp ((hev 1 (by decide)).trans rfl)) (hK _ _ hJ rfl veL_same)⟩
  ·
   have x11 : aa.tmps[11]? = some (.int .i64 1) := ((hin 0 11 rfl).trans (congrArg some (show uu 0 = .int .i64 1 from hd 0 (by decide) (by kernel_rfl))))
   have x12 : aa.tmps[12]? = some (.int .i64 2) := ((hin 1 12 rfl).trans (congrArg some (show uu 1 = .int .i64 2 from hd 1 (by decide) (by kernel_rfl))))
   clear hd hev hin
   simp only [zzA, zzB]
   clear hl
   refine .inr ⟨rfl, fun K' hK => ?_⟩
   have HK := Lib.hid hK
   clear hK
   go_simp
   exact HK.out (.int .i64 1) _ hJ rfl veL_same
  ·
   exact .inr ⟨rfl, fun K' hK => wp_ixa 25 (.tmp 2) (.tmp 13) rfl (eval_tmp ((hev 2 (by decide)).trans rfl)) (eval_tmp ((hin 2 13 rfl).trans (congrArg some (show uu 2 = .int .i64 1 from hd 2 (by decide) (by kernel_rfl))))) (fun _ => by kernel_rfl) (hK _ _ hJ rfl veL_same)⟩
  ·
   exact .inr ⟨rfl, fun K' hK => wp_load 23 (.tmp 14) rfl b 3 3 (cV w_) (cS w_.y) 25 (hb.below hJ.es.below) (eval_tmp ((hin 3 14 rfl).trans (congrArg some (show uu 3 = .pointer (some ⟨b, 3, none⟩) from hd 3 (by decide) (by kernel_rfl))))) ag23 sz23 (zzF (by kernel_rfl)) (by kernel_rfl) (hK _ _ hJ rfl veL_same)⟩
  ·
   exact .inr ⟨rfl, fun K' hK => wp_move (.tmp 0) rfl (eval_tmp ((hev 0 (by decide)).trans rfl)) (hK _ _ hJ rfl veL_same)⟩
  ·
   exact .inr ⟨rfl, fun K' hK => wp_move (.tmp 1) rfl (eval_tmp ((hev 1 (by decide)).trans rfl)) (hK _ _ hJ rfl veL_same)⟩
  ·
   have x16 : aa.tmps[16]? = some (.int .i64 1) := ((hin 5 16 rfl).trans (congrArg some (show uu 5 = .int .i64 1 from hd 5 (by decide) (by kernel_rfl))))
   have x17 : aa.tmps[17]? = some (.int .i64 2) := ((hin 6 17 rfl).trans (congrArg some (show uu 6 = .int .i64 2 from hd 6 (by decide) (by kernel_rfl))))
   clear hd hev hin
   simp only [zzA, zzB]
   clear hl
   refine .inr ⟨rfl, fun K' hK => ?_⟩
   have HK := Lib.hid hK
   clear hK
   go_simp
   exact HK.out (.int .i64 2) _ hJ rfl veL_same
  ·
   exact .inr ⟨rfl, fun K' hK => wp_ixa 25 (.tmp 2) (.tmp 18) rfl (eval_tmp ((hev 2 (by decide)).trans rfl)) (eval_tmp ((hin 7 18 rfl).trans (congrArg some (show uu 7 = .int .i64 2 from hd 7 (by decide) (by kernel_rfl))))) (fun _ => by kernel_rfl) (hK _ _ hJ rfl veL_same)⟩
  ·
   exact .inr ⟨rfl, fun K' hK => wp_load 23 (.tmp 19) rfl b 6 3 (cV w_) (cS w_.z) 25 (hb.below hJ.es.below) (eval_tmp ((hin 8 19 rfl).trans (congrArg some (show uu 8 = .pointer (some ⟨b, 6, none⟩) from hd 8 (by decide) (by kernel_rfl))))) ag23 sz23 (zzF (by kernel_rfl)) (by kernel_rfl) (hK _ _ hJ rfl veL_same)⟩
  ·
   exact .inr ⟨rfl, fun K' hK => wp_callv (.func 42) #[.tmp 15, .tmp 20] _ 42 #[] #[.agg (cS w_.y), .agg (cS w_.z)] #[.agg (cS w_.y), .agg (cS w_.z)] rfl rfl (map2 (eval_tmp ((hin 4 15 rfl).trans (congrArg some (show uu 4 = .agg (cS w_.y) from hd 4 (by decide) (by kernel_rfl))))) (eval_tmp ((hin 9 20 rfl).trans (congrArg some (show uu 9 = .agg (cS w_.z) from hd 9 (by decide) (by kernel_rfl)))))) (by kernel_rfl) (fun _ _ => by kernel_rfl) (sMul_any w_.y w_.z ww) (fun _ hB => (hK _ _ (hJ.later hB) rfl (veL_later hB)))⟩
 clear hM
 intro uu W2 hJm hd
 have e_0 : uu 0 = .int .i64 1 := hd 0 (by decide)
 have e_1 : uu 1 = .int .i64 2 := hd 1 (by decide)
 have e_2 : uu 2 = .int .i64 1 := hd 2 (by decide)
 have e_3 : uu 3 = .pointer (some ⟨b, 3, none⟩) := hd 3 (by decide)
 have e_4 : uu 4 = .agg (cS w_.y) := hd 4 (by decide)
 have e_5 : uu 5 = .int .i64 1 := hd 5 (by decide)
 have e_6 : uu 6 = .int .i64 2 := hd 6 (by decide)
 have e_7 : uu 7 = .int .i64 2 := hd 7 (by decide)
 have e_8 : uu 8 = .pointer (some ⟨b, 6, none⟩) := hd 8 (by decide)
 have e_9 : uu 9 = .agg (cS w_.z) := hd 9 (by decide)
 have e_10 : uu 10 = .agg (cS (mulS w_.y w_.z)) := hd 10 (by decide)
 clear hd
 simp only [layS, Act.put, zzC, zzD, zzE, Nat.zero_add, Nat.reduceAdd, List.drop_succ_cons, List.drop_zero, List.drop_nil, e_0, e_1, e_2, e_3, e_4, e_5, e_6, e_7, e_8, e_9, e_10]
 clear e_0 e_1 e_2 e_3 e_4 e_5 e_6 e_7 e_8 e_9 e_10
 have hJ2 := hJm.es
 clear hJm
 go_wp2_with (refine stop_store 23 (.tmp 5) (.tmp 21) 0 bk1 0 (cS zS) 23 3 (cS (mulS w_.y w_.z)).toList (cS (mulS w_.y w_.z)) [(bk1, (cS (mulS w_.y w_.z)), 23)] rfl rfl rfl rfl sz23 hJ2 rfl (by kernel_rfl) (zzF (by kernel_rfl)) (by kernel_rfl) (by kernel_rfl) (by kernel_rfl) (fun W3 hJ3 => ?_))
 clear hJ2
 unfold Stop
 try simp only [Act.put, zzC, zzD, zzE]
 go_wp2
 exact bodyPost_ret (v := .agg (cS (mulS w_.y w_.z))) (results_cell 0 Tryz.results64 hJ3 rfl ag23 sz23 (zzF (by kernel_rfl)) rfl (by kernel_rfl)) rfl ⟨rfl, hJ3.below⟩
set_option maxRecDepth 100000 in
set_option maxHeartbeats 12800000 in
theorem tTwi20 (b : Nat) (w_ : Vc)  (w : World) (hb : Cl w (b, cV w_, 25))  : Calls Tryz.prog 64 #[.int .i64 2, .int .i64 0, .pointer (some ⟨b, 0, none⟩)] w (PVal (.agg (cS (mulS w_.x w_.z))) w) := by
 have hJ0 := es_nil w
 go_enter Tryz.func64, Tryz.ntmps64
 go_wp2_with (refine stop_alloc 23 (cS zS) (.agg (cS zS)) rfl rfl zv23 rfl hJ0 (fun bk1 W1 hJ1 => ?_))
 clear hJ0
 unfold Stop
 try simp only [Act.put, zzC, zzD, zzE]
 go_wp2
 obtain ⟨m2_1, hm⟩ : ∃ m, m = W1.heap.size := ⟨_, rfl⟩
 have hM := hJ1.em
 rw [← hm] at hM
 clear hm hJ1
 refine wp_region_z 11 [some 11, some 12, some 13, some 14, some 15, some 16, some 17, some 18, some 19, some 20, some 21] (veL m2_1 [.eq (.int .i64 2), .eq (.int .i64 0), .eq (.int .i64 0), .eq (.pointer (some ⟨b, 0, none⟩)), .eq (.agg (cS w_.x)), .eq (.int .i64 2), .eq (.int .i64 0), .eq (.int .i64 2), .eq (.pointer (some ⟨b, 6, none⟩)), .eq (.agg (cS w_.z)), .eq (.agg (cS (mulS w_.x w_.z)))]) (Em w m2_1 [(bk1, (cS zS), 23)]) (by kernel_rfl) (by kernel_rfl) (by rfl) (by decide) (by rfl) hM ?_ ?_
 ·
  intro i hl hi uu ww aa hJ hd hev hin
  clear hM
  obtain rfl | rfl | rfl | rfl | rfl | rfl | rfl | rfl | rfl | rfl | rfl : i = 0 ∨ i = 1 ∨ i = 2 ∨ i = 3 ∨ i = 4 ∨ i = 5 ∨ i = 6 ∨ i = 7 ∨ i = 8 ∨ i = 9 ∨ i = 10 := by omega
  ·
   exact .inr ⟨rfl, fun K' hK => wp_move (.tmp 0) rfl (eval_tmp ((hev 0 (by decide)).trans rfl)) (hK _ _ hJ rfl veL_same)⟩
  ·
   exact .inr ⟨rfl, fun K' hK => wp_move (.tmp 1) rfl (eval_tmp ((hev 1 (by decide)).trans rfl)) (hK _ _ hJ rfl veL_same)⟩
  ·
   have x11 : aa.tmps[11]? = some (.int .i64 2) := ((hin 0 11 rfl).trans (congrArg some (show uu 0 = .int .i64 2 from hd 0 (by decide) (by kernel_rfl))))
   have x12 : aa.tmps[12]? = some (.int .i64 0) := ((hin 1 12 rfl).trans (congrArg some (show uu 1 = .int .i64 0 from hd 1 (by decide) (by kernel_rfl))))
   clear hd hev hin
   simp only [zzA, zzB]
   clear hl
   refine .inr ⟨rfl, fun K' hK => ?_⟩
   have HK := Lib.hid hK
   clear hK
   go_simp
   exact HK.out (.int .i64 0) _ hJ rfl veL_same
  ·
   exact .inr ⟨rfl, fun K' hK => wp_ixa 25 (.tmp 2) (.tmp 13) rfl (eval_tmp ((hev 2 (by decide)).trans rfl)) (eval_tmp ((hin 2 13 rfl).trans (congrArg some (show uu 2 = .int .i64 0 from hd 2 (by decide) (by kernel_rfl))))) (fun _ => by kernel_rfl) (hK _ _ hJ rfl veL_same)⟩
  ·
   exact .inr ⟨rfl, fun K' hK => wp_load 23 (.tmp 14) rfl b 0 3 (cV w_) (cS w_.x) 25 (hb.below hJ.es.below) (eval_tmp ((hin 3 14 rfl).trans (congrArg some (show uu 3 = .pointer (some ⟨b, 0, none⟩) from hd 3 (by decide) (by kernel_rfl))))) ag23 sz23 (zzF (by kernel_rfl)) (by kernel_rfl) (hK _ _ hJ rfl veL_same)⟩
  ·
   exact .inr ⟨rfl, fun K' hK => wp_move (.tmp 0) rfl (eval_tmp ((hev 0 (by decide)).trans rfl)) (hK _ _ hJ rfl veL_same)⟩
  ·
   exact .inr ⟨rfl, fun K' hK => wp_move (.tmp 1) rfl (eval_tmp ((hev 1 (by decide)).trans rfl)) (hK _ _ hJ rfl veL_same)⟩
  ·
   have x16 : aa.tmps[16]? = some (.int .i64 2) := ((hin 5 16 rfl).trans (congrArg some (show uu 5 = .int .i64 2 from hd 5 (by decide) (by kernel_rfl))))
   have x17 : aa.tmps[17]? = some (.int .i64 0) := ((hin 6 17 rfl).trans (congrArg some (show uu 6 = .int .i64 0 from hd 6 (by decide) (by kernel_rfl))))
   clear hd hev hin
   simp only [zzA, zzB]
   clear hl
   refine .inr ⟨rfl, fun K' hK => ?_⟩
   have HK := Lib.hid hK
   clear hK
   go_simp
   exact HK.out (.int .i64 2) _ hJ rfl veL_same
  ·
   exact .inr ⟨rfl, fun K' hK => wp_ixa 25 (.tmp 2) (.tmp 18) rfl (eval_tmp ((hev 2 (by decide)).trans rfl)) (eval_tmp ((hin 7 18 rfl).trans (congrArg some (show uu 7 = .int .i64 2 from hd 7 (by decide) (by kernel_rfl))))) (fun _ => by kernel_rfl) (hK _ _ hJ rfl veL_same)⟩
  ·
   exact .inr ⟨rfl, fun K' hK => wp_load 23 (.tmp 19) rfl b 6 3 (cV w_) (cS w_.z) 25 (hb.below hJ.es.below) (eval_tmp ((hin 8 19 rfl).trans (congrArg some (show uu 8 = .pointer (some ⟨b, 6, none⟩) from hd 8 (by decide) (by kernel_rfl))))) ag23 sz23 (zzF (by kernel_rfl)) (by kernel_rfl) (hK _ _ hJ rfl veL_same)⟩
  ·
   exact .inr ⟨rfl, fun K' hK => wp_callv (.func 42) #[.tmp 15, .tmp 20] _ 42 #[] #[.agg (cS w_.x), .agg (cS w_.z)] #[.agg (cS w_.x), .agg (cS w_.z)] rfl rfl (map2 (eval_tmp ((hin 4 15 rfl).trans (congrArg some (show uu 4 = .agg (cS w_.x) from hd 4 (by decide) (by kernel_rfl))))) (eval_tmp ((hin 9 20 rfl).trans (congrArg some (show uu 9 = .agg (cS w_.z) from hd 9 (by decide) (by kernel_rfl)))))) (by kernel_rfl) (fun _ _ => by kernel_rfl) (sMul_any w_.x w_.z ww) (fun _ hB => (hK _ _ (hJ.later hB) rfl (veL_later hB)))⟩
 clear hM
 intro uu W2 hJm hd
 have e_0 : uu 0 = .int .i64 2 := hd 0 (by decide)
 have e_1 : uu 1 = .int .i64 0 := hd 1 (by decide)
 have e_2 : uu 2 = .int .i64 0 := hd 2 (by decide)
 have e_3 : uu 3 = .pointer (some ⟨b, 0, none⟩) := hd 3 (by decide)
 have e_4 : uu 4 = .agg (cS w_.x) := hd 4 (by decide)
 have e_5 : uu 5 = .int .i64 2 := hd 5 (by decide)
 have e_6 : uu 6 = .int .i64 0 := hd 6 (by decide)
 have e_7 : uu 7 = .int .i64 2 := hd 7 (by decide)
 have e_8 : uu 8 = .pointer (some ⟨b, 6, none⟩) := hd 8 (by decide)
 have e_9 : uu 9 = .agg (cS w_.z) := hd 9 (by decide)
 have e_10 : uu 10 = .agg (cS (mulS w_.x w_.z)) := hd 10 (by decide)
 clear hd
 simp only [layS, Act.put, zzC, zzD, zzE, Nat.zero_add, Nat.reduceAdd, List.drop_succ_cons, List.drop_zero, List.drop_nil, e_0, e_1, e_2, e_3, e_4, e_5, e_6, e_7, e_8, e_9, e_10]
 clear e_0 e_1 e_2 e_3 e_4 e_5 e_6 e_7 e_8 e_9 e_10
 have hJ2 := hJm.es
 clear hJm
 go_wp2_with (refine stop_store 23 (.tmp 5) (.tmp 21) 0 bk1 0 (cS zS) 23 3 (cS (mulS w_.x w_.z)).toList (cS (mulS w_.x w_.z)) [(bk1, (cS (mulS w_.x w_.z)), 23)] rfl rfl rfl rfl sz23 hJ2 rfl (by kernel_rfl) (zzF (by kernel_rfl)) (by kernel_rfl) (by kernel_rfl) (by kernel_rfl) (fun W3 hJ3 => ?_))
 clear hJ2
 unfold Stop
 try simp only [Act.put, zzC, zzD, zzE]
 go_wp2
 exact bodyPost_ret (v := .agg (cS (mulS w_.x w_.z))) (results_cell 0 Tryz.results64 hJ3 rfl ag23 sz23 (zzF (by kernel_rfl)) rfl (by kernel_rfl)) rfl ⟨rfl, hJ3.below⟩
set_option maxRecDepth 100000 in
set_option maxHeartbeats 12800000 in
theorem tTwi21 (b : Nat) (w_ : Vc)  (w : World) (hb : Cl w (b, cV w_, 25))  : Calls Tryz.prog 64 #[.int .i64 2, .int .i64 1, .pointer (some ⟨b, 0, none⟩)] w (PVal (.agg (cS (mulS w_.y w_.z))) w) := by
 have hJ0 := es_nil w
 go_enter Tryz.func64, Tryz.ntmps64
 go_wp2_with (refine stop_alloc 23 (cS zS) (.agg (cS zS)) rfl rfl zv23 rfl hJ0 (fun bk1 W1 hJ1 => ?_))
 clear hJ0
 unfold Stop
 try simp only [Act.put, zzC, zzD, zzE]
 go_wp2
 obtain ⟨m2_1, hm⟩ : ∃ m, m = W1.heap.size := ⟨_, rfl⟩
 have hM := hJ1.em
 rw [← hm] at hM
 clear hm hJ1
 refine wp_region_z 11 [some 11, some 12, some 13, some 14, some 15, some 16, some 17, some 18, some 19, some 20, some 21] (veL m2_1 [.eq (.int .i64 2), .eq (.int .i64 1), .eq (.int .i64 1), .eq (.pointer (some ⟨b, 3, none⟩)), .eq (.agg (cS w_.y)), .eq (.int .i64 2), .eq (.int .i64 1), .eq (.int .i64 2), .eq (.pointer (some ⟨b, 6, none⟩)), .eq (.agg (cS w_.z)), .eq (.agg (cS (mulS w_.y w_.z)))]) (Em w m2_1 [(bk1, (cS zS), 23)]) (by kernel_rfl) (by kernel_rfl) (by rfl) (by decide) (by rfl) hM ?_ ?_
 ·
  intro i hl hi uu ww aa hJ hd hev hin
  clear hM
  obtain rfl | rfl | rfl | rfl | rfl | rfl | rfl | rfl | rfl | rfl | rfl : i = 0 ∨ i = 1 ∨ i = 2 ∨ i = 3 ∨ i = 4 ∨ i = 5 ∨ i = 6 ∨ i = 7 ∨ i = 8 ∨ i = 9 ∨ i = 10 := by omega
  ·
   exact .inr ⟨rfl, fun K' hK => wp_move (.tmp 0) rfl (eval_tmp ((hev 0 (by decide)).trans rfl)) (hK _ _ hJ rfl veL_same)⟩
  ·
   exact .inr ⟨rfl, fun K' hK => wp_move (.tmp 1) rfl (eval_tmp ((hev 1 (by decide)).trans rfl)) (hK _ _ hJ rfl veL_same)⟩
  ·
   have x11 : aa.tmps[11]? = some (.int .i64 2) := ((hin 0 11 rfl).trans (congrArg some (show uu 0 = .int .i64 2 from hd 0 (by decide) (by kernel_rfl))))
   have x12 : aa.tmps[12]? = some (.int .i64 1) := ((hin 1 12 rfl).trans (congrArg some (show uu 1 = .int .i64 1 from hd 1 (by decide) (by kernel_rfl))))
   clear hd hev hin
   simp only [zzA, zzB]
   clear hl
   refine .inr ⟨rfl, fun K' hK => ?_⟩
   have HK := Lib.hid hK
   clear hK
   go_simp
   exact HK.out (.int .i64 1) _ hJ rfl veL_same
  ·
   exact .inr ⟨rfl, fun K' hK => wp_ixa 25 (.tmp 2) (.tmp 13) rfl (eval_tmp ((hev 2 (by decide)).trans rfl)) (eval_tmp ((hin 2 13 rfl).trans (congrArg some (show uu 2 = .int .i64 1 from hd 2 (by decide) (by kernel_rfl))))) (fun _ => by kernel_rfl) (hK _ _ hJ rfl veL_same)⟩
  ·
   exact .inr ⟨rfl, fun K' hK => wp_load 23 (.tmp 14) rfl b 3 3 (cV w_) (cS w_.y) 25 (hb.below hJ.es.below) (eval_tmp ((hin 3 14 rfl).trans (congrArg some (show uu 3 = .pointer (some ⟨b, 3, none⟩) from hd 3 (by decide) (by kernel_rfl))))) ag23 sz23 (zzF (by kernel_rfl)) (by kernel_rfl) (hK _ _ hJ rfl veL_same)⟩
  ·
   exact .inr ⟨rfl, fun K' hK => wp_move (.tmp 0) rfl (eval_tmp ((hev 0 (by decide)).trans rfl)) (hK _ _ hJ rfl veL_same)⟩
  ·
   exact .inr ⟨rfl, fun K' hK => wp_move (.tmp 1) rfl (eval_tmp ((hev 1 (by decide)).trans rfl)) (hK _ _ hJ rfl veL_same)⟩
  ·
   have x16 : aa.tmps[16]? = some (.int .i64 2) := ((hin 5 16 rfl).trans (congrArg some (show uu 5 = .int .i64 2 from hd 5 (by decide) (by kernel_rfl))))
   have x17 : aa.tmps[17]? = some (.int .i64 1) := ((hin 6 17 rfl).trans (congrArg some (show uu 6 = .int .i64 1 from hd 6 (by decide) (by kernel_rfl))))
   clear hd hev hin
   simp only [zzA, zzB]
   clear hl
   refine .inr ⟨rfl, fun K' hK => ?_⟩
   have HK := Lib.hid hK
   clear hK
   go_simp
   exact HK.out (.int .i64 2) _ hJ rfl veL_same
  ·
   exact .inr ⟨rfl, fun K' hK => wp_ixa 25 (.tmp 2) (.tmp 18) rfl (eval_tmp ((hev 2 (by decide)).trans rfl)) (eval_tmp ((hin 7 18 rfl).trans (congrArg some (show uu 7 = .int .i64 2 from hd 7 (by decide) (by kernel_rfl))))) (fun _ => by kernel_rfl) (hK _ _ hJ rfl veL_same)⟩
  ·
   exact .inr ⟨rfl, fun K' hK => wp_load 23 (.tmp 19) rfl b 6 3 (cV w_) (cS w_.z) 25 (hb.below hJ.es.below) (eval_tmp ((hin 8 19 rfl).trans (congrArg some (show uu 8 = .pointer (some ⟨b, 6, none⟩) from hd 8 (by decide) (by kernel_rfl))))) ag23 sz23 (zzF (by kernel_rfl)) (by kernel_rfl) (hK _ _ hJ rfl veL_same)⟩
  ·
   exact .inr ⟨rfl, fun K' hK => wp_callv (.func 42) #[.tmp 15, .tmp 20] _ 42 #[] #[.agg (cS w_.y), .agg (cS w_.z)] #[.agg (cS w_.y), .agg (cS w_.z)] rfl rfl (map2 (eval_tmp ((hin 4 15 rfl).trans (congrArg some (show uu 4 = .agg (cS w_.y) from hd 4 (by decide) (by kernel_rfl))))) (eval_tmp ((hin 9 20 rfl).trans (congrArg some (show uu 9 = .agg (cS w_.z) from hd 9 (by decide) (by kernel_rfl)))))) (by kernel_rfl) (fun _ _ => by kernel_rfl) (sMul_any w_.y w_.z ww) (fun _ hB => (hK _ _ (hJ.later hB) rfl (veL_later hB)))⟩
 clear hM
 intro uu W2 hJm hd
 have e_0 : uu 0 = .int .i64 2 := hd 0 (by decide)
 have e_1 : uu 1 = .int .i64 1 := hd 1 (by decide)
 have e_2 : uu 2 = .int .i64 1 := hd 2 (by decide)
 have e_3 : uu 3 = .pointer (some ⟨b, 3, none⟩) := hd 3 (by decide)
 have e_4 : uu 4 = .agg (cS w_.y) := hd 4 (by decide)
 have e_5 : uu 5 = .int .i64 2 := hd 5 (by decide)
 have e_6 : uu 6 = .int .i64 1 := hd 6 (by decide)
 have e_7 : uu 7 = .int .i64 2 := hd 7 (by decide)
 have e_8 : uu 8 = .pointer (some ⟨b, 6, none⟩) := hd 8 (by decide)
 have e_9 : uu 9 = .agg (cS w_.z) := hd 9 (by decide)
 have e_10 : uu 10 = .agg (cS (mulS w_.y w_.z)) := hd 10 (by decide)
 clear hd
 simp only [layS, Act.put, zzC, zzD, zzE, Nat.zero_add, Nat.reduceAdd, List.drop_succ_cons, List.drop_zero, List.drop_nil, e_0, e_1, e_2, e_3, e_4, e_5, e_6, e_7, e_8, e_9, e_10]
 clear e_0 e_1 e_2 e_3 e_4 e_5 e_6 e_7 e_8 e_9 e_10
 have hJ2 := hJm.es
 clear hJm
 go_wp2_with (refine stop_store 23 (.tmp 5) (.tmp 21) 0 bk1 0 (cS zS) 23 3 (cS (mulS w_.y w_.z)).toList (cS (mulS w_.y w_.z)) [(bk1, (cS (mulS w_.y w_.z)), 23)] rfl rfl rfl rfl sz23 hJ2 rfl (by kernel_rfl) (zzF (by kernel_rfl)) (by kernel_rfl) (by kernel_rfl) (by kernel_rfl) (fun W3 hJ3 => ?_))
 clear hJ2
 unfold Stop
 try simp only [Act.put, zzC, zzD, zzE]
 go_wp2
 exact bodyPost_ret (v := .agg (cS (mulS w_.y w_.z))) (results_cell 0 Tryz.results64 hJ3 rfl ag23 sz23 (zzF (by kernel_rfl)) rfl (by kernel_rfl)) rfl ⟨rfl, hJ3.below⟩
set_option maxRecDepth 100000 in
set_option maxHeartbeats 12800000 in
theorem tTwi22 (b : Nat) (w_ : Vc)  (w : World) (hb : Cl w (b, cV w_, 25))  : Calls Tryz.prog 64 #[.int .i64 2, .int .i64 2, .pointer (some ⟨b, 0, none⟩)] w (PVal (.agg (cS (negS (addS (sqrS w_.x) (sqrS w_.y))))) w) := by
 have hJ0 := es_nil w
 go_enter Tryz.func64, Tryz.ntmps64
 go_wp2_with (refine stop_alloc 23 (cS zS) (.agg (cS zS)) rfl rfl zv23 rfl hJ0 (fun bk1 W1 hJ1 => ?_))
 clear hJ0
 unfold Stop
 try simp only [Act.put, zzC, zzD, zzE]
 go_wp2
 obtain ⟨m3_1, hm⟩ : ∃ m, m = W1.heap.size := ⟨_, rfl⟩
 have hM : ∀ uu, Jz w m3_1 [(bk1, (cS zS), 23)] [(18, 3, 23), (19, 3, 23)] [(20, 18, (cS w_.x), 23), (21, 19, (cS w_.y), 23)] (fun _ => false) uu W1.drew := fun uu => by rw [hm]; exact Jz.start hJ1 uu
 clear hm hJ1
 refine wp_region_y 22 [some 22, some 23, some 24, some 25, some 26, some 27, some 28, some 29, some 30, some 31, some 32, some 33, some 34, some 35, some 36, some 37, some 38, some 39, some 6, some 7, none, none] (veL m3_1 [.eq (.int .i64 2), .eq (.int .i64 3), .eq (.int .i64 0), .eq (.int .i64 2), .eq (.int .i64 4), .eq (.int .i64 1), .eq (.int .i64 0), .eq (.pointer (some ⟨b, 0, none⟩)), .eq (.agg (cS w_.x)), .eq (.int .i64 2), .eq (.int .i64 3), .eq (.int .i64 0), .eq (.int .i64 2), .eq (.int .i64 4), .eq (.int .i64 1), .eq (.int .i64 1), .eq (.pointer (some ⟨b, 3, none⟩)), .eq (.agg (cS w_.y)), .any, .any, .any, .any]) (Jz w m3_1 [(bk1, (cS zS), 23)] [(18, 3, 23), (19, 3, 23)] [(20, 18, (cS w_.x), 23), (21, 19, (cS w_.y), 23)]) (by kernel_rfl) (by kernel_rfl) (by rfl) (by decide) (by rfl) hM ?_ ?_
 ·
  intro i hl hi LL uu ww aa hLi hJ hd hev hin
  clear hM
  obtain rfl | rfl | rfl | rfl | rfl | rfl | rfl | rfl | rfl | rfl | rfl | rfl | rfl | rfl | rfl | rfl | rfl | rfl | rfl | rfl | rfl | rfl : i = 0 ∨ i = 1 ∨ i = 2 ∨ i = 3 ∨ i = 4 ∨ i = 5 ∨ i = 6 ∨ i = 7 ∨ i = 8 ∨ i = 9 ∨ i = 10 ∨ i = 11 ∨ i = 12 ∨ i = 13 ∨ i = 14 ∨ i = 15 ∨ i = 16 ∨ i = 17 ∨ i = 18 ∨ i = 19 ∨ i = 20 ∨ i = 21 := by omega
  ·
   exact .inr ⟨rfl, fun K' hK => wp_move (.tmp 0) rfl (eval_tmp ((hev 0 (by decide)).trans rfl)) (hK _ _ (hJ.grow hLi (by simp) (by simp) (Below.refl _ _)) rfl veL_same)⟩
  ·
   have x22 : aa.tmps[22]? = some (.int .i64 2) := ((hin 0 22 rfl).trans (congrArg some (show uu 0 = .int .i64 2 from (hd 0 (by decide) (by kernel_rfl)).2)))
   clear hd hev hin
   simp only [zzA, zzB]
   clear hl
   refine .inr ⟨rfl, fun K' hK => ?_⟩
   have HK := Lib.hid hK
   clear hK
   go_simp
   exact HK.out (.int .i64 3) _ (hJ.grow hLi (by simp) (by simp) (Below.refl _ _)) rfl veL_same
  ·
   have x23 : aa.tmps[23]? = some (.int .i64 3) := ((hin 1 23 rfl).trans (congrArg some (show uu 1 = .int .i64 3 from (hd 1 (by decide) (by kernel_rfl)).2)))
   clear hd hev hin
   simp only [zzA, zzB]
   clear hl
   refine .inr ⟨rfl, fun K' hK => ?_⟩
   have HK := Lib.hid hK
   clear hK
   go_simp
   exact HK.out (.int .i64 0) _ (hJ.grow hLi (by simp) (by simp) (Below.refl _ _)) rfl veL_same
  ·
   exact .inr ⟨rfl, fun K' hK => wp_move (.tmp 0) rfl (eval_tmp ((hev 0 (by decide)).trans rfl)) (hK _ _ (hJ.grow hLi (by simp) (by simp) (Below.refl _ _)) rfl veL_same)⟩
  ·
   have x25 : aa.tmps[25]? = some (.int .i64 2) := ((hin 3 25 rfl).trans (congrArg some (show uu 3 = .int .i64 2 from (hd 3 (by decide) (by kernel_rfl)).2)))
   clear hd hev hin
   simp only [zzA, zzB]
   clear hl
   refine .inr ⟨rfl, fun K' hK => ?_⟩
   have HK := Lib.hid hK
   clear hK
   go_simp
   exact HK.out (.int .i64 4) _ (hJ.grow hLi (by simp) (by simp) (Below.refl _ _)) rfl veL_same
  ·
   have x26 : aa.tmps[26]? = some (.int .i64 4) := ((hin 4 26 rfl).trans (congrArg some (show uu 4 = .int .i64 4 from (hd 4 (by decide) (by kernel_rfl)).2)))
   clear hd hev hin
   simp only [zzA, zzB]
   clear hl
   refine .inr ⟨rfl, fun K' hK => ?_⟩
   have HK := Lib.hid hK
   clear hK
   go_simp
   exact HK.out (.int .i64 1) _ (hJ.grow hLi (by simp) (by simp) (Below.refl _ _)) rfl veL_same
  ·
   have x24 : aa.tmps[24]? = some (.int .i64 0) := ((hin 2 24 rfl).trans (congrArg some (show uu 2 = .int .i64 0 from (hd 2 (by decide) (by kernel_rfl)).2)))
   have x27 : aa.tmps[27]? = some (.int .i64 1) := ((hin 5 27 rfl).trans (congrArg some (show uu 5 = .int .i64 1 from (hd 5 (by decide) (by kernel_rfl)).2)))
   clear hd hev hin
   simp only [zzA, zzB]
   clear hl
   refine .inr ⟨rfl, fun K' hK => ?_⟩
   have HK := Lib.hid hK
   clear hK
   go_simp
   exact HK.out (.int .i64 0) _ (hJ.grow hLi (by simp) (by simp) (Below.refl _ _)) rfl veL_same
  ·
   exact .inr ⟨rfl, fun K' hK => wp_ixa 25 (.tmp 2) (.tmp 28) rfl (eval_tmp ((hev 2 (by decide)).trans rfl)) (eval_tmp ((hin 6 28 rfl).trans (congrArg some (show uu 6 = .int .i64 0 from (hd 6 (by decide) (by kernel_rfl)).2)))) (fun _ => by kernel_rfl) (hK _ _ (hJ.grow hLi (by simp) (by simp) (Below.refl _ _)) rfl veL_same)⟩
  ·
   exact .inr ⟨rfl, fun K' hK => wp_load 23 (.tmp 29) rfl b 0 3 (cV w_) (cS w_.x) 25 (hb.below hJ.em.es.below) (eval_tmp ((hin 7 29 rfl).trans (congrArg some (show uu 7 = .pointer (some ⟨b, 0, none⟩) from (hd 7 (by decide) (by kernel_rfl)).2)))) ag23 sz23 (zzF (by kernel_rfl)) (by kernel_rfl) (hK _ _ (hJ.grow hLi (by simp) (by simp) (Below.refl _ _)) rfl veL_same)⟩
  ·
   exact .inr ⟨rfl, fun K' hK => wp_move (.tmp 0) rfl (eval_tmp ((hev 0 (by decide)).trans rfl)) (hK _ _ (hJ.grow hLi (by simp) (by simp) (Below.refl _ _)) rfl veL_same)⟩
  ·
   have x31 : aa.tmps[31]? = some (.int .i64 2) := ((hin 9 31 rfl).trans (congrArg some (show uu 9 = .int .i64 2 from (hd 9 (by decide) (by kernel_rfl)).2)))
   clear hd hev hin
   simp only [zzA, zzB]
   clear hl
   refine .inr ⟨rfl, fun K' hK => ?_⟩
   have HK := Lib.hid hK
   clear hK
   go_simp
   exact HK.out (.int .i64 3) _ (hJ.grow hLi (by simp) (by simp) (Below.refl _ _)) rfl veL_same
  ·
   have x32 : aa.tmps[32]? = some (.int .i64 3) := ((hin 10 32 rfl).trans (congrArg some (show uu 10 = .int .i64 3 from (hd 10 (by decide) (by kernel_rfl)).2)))
   clear hd hev hin
   simp only [zzA, zzB]
   clear hl
   refine .inr ⟨rfl, fun K' hK => ?_⟩
   have HK := Lib.hid hK
   clear hK
   go_simp
   exact HK.out (.int .i64 0) _ (hJ.grow hLi (by simp) (by simp) (Below.refl _ _)) rfl veL_same
  ·
   exact .inr ⟨rfl, fun K' hK => wp_move (.tmp 0) rfl (eval_tmp ((hev 0 (by decide)).trans rfl)) (hK _ _ (hJ.grow hLi (by simp) (by simp) (Below.refl _ _)) rfl veL_same)⟩
  ·
   have x34 : aa.tmps[34]? = some (.int .i64 2) := ((hin 12 34 rfl).trans (congrArg some (show uu 12 = .int .i64 2 from (hd 12 (by decide) (by kernel_rfl)).2)))
   clear hd hev hin
   simp only [zzA, zzB]
   clear hl
   refine .inr ⟨rfl, fun K' hK => ?_⟩
   have HK := Lib.hid hK
   clear hK
   go_simp
   exact HK.out (.int .i64 4) _ (hJ.grow hLi (by simp) (by simp) (Below.refl _ _)) rfl veL_same
  ·
   have x35 : aa.tmps[35]? = some (.int .i64 4) := ((hin 13 35 rfl).trans (congrArg some (show uu 13 = .int .i64 4 from (hd 13 (by decide) (by kernel_rfl)).2)))
   clear hd hev hin
   simp only [zzA, zzB]
   clear hl
   refine .inr ⟨rfl, fun K' hK => ?_⟩
   have HK := Lib.hid hK
   clear hK
   go_simp
   exact HK.out (.int .i64 1) _ (hJ.grow hLi (by simp) (by simp) (Below.refl _ _)) rfl veL_same
  ·
   have x33 : aa.tmps[33]? = some (.int .i64 0) := ((hin 11 33 rfl).trans (congrArg some (show uu 11 = .int .i64 0 from (hd 11 (by decide) (by kernel_rfl)).2)))
   have x36 : aa.tmps[36]? = some (.int .i64 1) := ((hin 14 36 rfl).trans (congrArg some (show uu 14 = .int .i64 1 from (hd 14 (by decide) (by kernel_rfl)).2)))
   clear hd hev hin
   simp only [zzA, zzB]
   clear hl
   refine .inr ⟨rfl, fun K' hK => ?_⟩
   have HK := Lib.hid hK
   clear hK
   go_simp
   exact HK.out (.int .i64 1) _ (hJ.grow hLi (by simp) (by simp) (Below.refl _ _)) rfl veL_same
  ·
   exact .inr ⟨rfl, fun K' hK => wp_ixa 25 (.tmp 2) (.tmp 37) rfl (eval_tmp ((hev 2 (by decide)).trans rfl)) (eval_tmp ((hin 15 37 rfl).trans (congrArg some (show uu 15 = .int .i64 1 from (hd 15 (by decide) (by kernel_rfl)).2)))) (fun _ => by kernel_rfl) (hK _ _ (hJ.grow hLi (by simp) (by simp) (Below.refl _ _)) rfl veL_same)⟩
  ·
   exact .inr ⟨rfl, fun K' hK => wp_load 23 (.tmp 38) rfl b 3 3 (cV w_) (cS w_.y) 25 (hb.below hJ.em.es.below) (eval_tmp ((hin 16 38 rfl).trans (congrArg some (show uu 16 = .pointer (some ⟨b, 3, none⟩) from (hd 16 (by decide) (by kernel_rfl)).2)))) ag23 sz23 (zzF (by kernel_rfl)) (by kernel_rfl) (hK _ _ (hJ.grow hLi (by simp) (by simp) (Below.refl _ _)) rfl veL_same)⟩
  ·
   exact .inr ⟨rfl, fun K' hK => wp_alloc 23 rfl (.agg (cS zS)) zv23 (hK _ _ (hJ.alloc hLi (n := 3) rfl (by simp) (by simp)) trivial (veL_flat rfl))⟩
  ·
   exact .inr ⟨rfl, fun K' hK => wp_alloc 23 rfl (.agg (cS zS)) zv23 (hK _ _ (hJ.alloc hLi (n := 3) rfl (by simp) (by simp)) trivial (veL_flat rfl))⟩
  ·
   have hLa := (hd 18 (by decide) (by kernel_rfl)).1
   obtain ⟨kb, kC, ke, kge, ksz, kcl⟩ := hJ.bx (18, 3, 23) (by simp) hLa
   have x6 : aa.tmps[6]? = some (.pointer (some ⟨kb, 0, none⟩)) := (hin 18 6 rfl).trans (congrArg some ke)
   have x30 : aa.tmps[30]? = some (.agg (cS w_.x)) := ((hin 8 30 rfl).trans (congrArg some (show uu 8 = .agg (cS w_.x) from (hd 8 (by decide) (by kernel_rfl)).2)))
   clear hd hev hin
   simp only [zzA, zzB]
   clear hl
   refine .inr ⟨rfl, fun K' hK => ?_⟩
   have HK := Lib.hid hK
   clear hK
   refine wp_store 23 (.tmp 6) (.tmp 30) rfl 0 kb 0 kC 23 3 (cS w_.x).toList (hJ.em.join kge kcl) rfl (eval_tmp x6) (by rw [eval_tmp x30]; rfl) sz23 (by kernel_rfl) (by rw [ksz]; decide) (by kernel_rfl) (fun ww2 hE hk hz => ?_)
   rw [putC_full (show kC.size = (cS w_.x).toList.length from ksz), Array.toArray_toList] at hE
   exact HK.out undef _ (hJ.store (a := 18) (n := 3) (T := 23) (Cn := (cS w_.x)) hLi (by simp) (by simp) (by simp) (by simp) (by simp) (by simp) hLa ke kge rfl hE hk hz) trivial (veL_flat rfl)
  ·
   have hLa := (hd 19 (by decide) (by kernel_rfl)).1
   obtain ⟨kb, kC, ke, kge, ksz, kcl⟩ := hJ.bx (19, 3, 23) (by simp) hLa
   have x7 : aa.tmps[7]? = some (.pointer (some ⟨kb, 0, none⟩)) := (hin 19 7 rfl).trans (congrArg some ke)
   have x39 : aa.tmps[39]? = some (.agg (cS w_.y)) := ((hin 17 39 rfl).trans (congrArg some (show uu 17 = .agg (cS w_.y) from (hd 17 (by decide) (by kernel_rfl)).2)))
   clear hd hev hin
   simp only [zzA, zzB]
   clear hl
   refine .inr ⟨rfl, fun K' hK => ?_⟩
   have HK := Lib.hid hK
   clear hK
   refine wp_store 23 (.tmp 7) (.tmp 39) rfl 0 kb 0 kC 23 3 (cS w_.y).toList (hJ.em.join kge kcl) rfl (eval_tmp x7) (by rw [eval_tmp x39]; rfl) sz23 (by kernel_rfl) (by rw [ksz]; decide) (by kernel_rfl) (fun ww2 hE hk hz => ?_)
   rw [putC_full (show kC.size = (cS w_.y).toList.length from ksz), Array.toArray_toList] at hE
   exact HK.out undef _ (hJ.store (a := 19) (n := 3) (T := 23) (Cn := (cS w_.y)) hLi (by simp) (by simp) (by simp) (by simp) (by simp) (by simp) hLa ke kge rfl hE hk hz) trivial (veL_flat rfl)
 clear hM
 intro LL uu W2 hLL hJm hd
 have e_0 : uu 0 = .int .i64 2 := hd 0 (by decide)
 have e_1 : uu 1 = .int .i64 3 := hd 1 (by decide)
 have e_2 : uu 2 = .int .i64 0 := hd 2 (by decide)
 have e_3 : uu 3 = .int .i64 2 := hd 3 (by decide)
 have e_4 : uu 4 = .int .i64 4 := hd 4 (by decide)
 have e_5 : uu 5 = .int .i64 1 := hd 5 (by decide)
 have e_6 : uu 6 = .int .i64 0 := hd 6 (by decide)
 have e_7 : uu 7 = .pointer (some ⟨b, 0, none⟩) := hd 7 (by decide)
 have e_8 : uu 8 = .agg (cS w_.x) := hd 8 (by decide)
 have e_9 : uu 9 = .int .i64 2 := hd 9 (by decide)
 have e_10 : uu 10 = .int .i64 3 := hd 10 (by decide)
 have e_11 : uu 11 = .int .i64 0 := hd 11 (by decide)
 have e_12 : uu 12 = .int .i64 2 := hd 12 (by decide)
 have e_13 : uu 13 = .int .i64 4 := hd 13 (by decide)
 have e_14 : uu 14 = .int .i64 1 := hd 14 (by decide)
 have e_15 : uu 15 = .int .i64 1 := hd 15 (by decide)
 have e_16 : uu 16 = .pointer (some ⟨b, 3, none⟩) := hd 16 (by decide)
 have e_17 : uu 17 = .agg (cS w_.y) := hd 17 (by decide)
 obtain ⟨bk2, kC18, e_18, nge18, ksz18, nB18⟩ := hJm.bx (18, 3, 23) (by simp) (hLL 18 (by decide))
 obtain ⟨bk3, kC19, e_19, nge19, ksz19, nB19⟩ := hJm.bx (19, 3, 23) (by simp) (hLL 19 (by decide))
 obtain ⟨_, kb20, ke20, kl20⟩ := hJm.st (20, 18, (cS w_.x), 23) (by simp) (hLL 20 (by decide))
 have kq20 : kb20 = bk2 := by
  have hq := ke20.symm.trans e_18
  injection hq with hq
  injection hq with hq
  injection hq with hq
 subst kq20
 clear ke20
 obtain ⟨_, kb21, ke21, kl21⟩ := hJm.st (21, 19, (cS w_.y), 23) (by simp) (hLL 21 (by decide))
 have kq21 : kb21 = bk3 := by
  have hq := ke21.symm.trans e_19
  injection hq with hq
  injection hq with hq
  injection hq with hq
 subst kq21
 clear ke21
 have g18 := hJm.em.join nge18 kl20
 have g19 : Es w W2 _ := Es.join g18 (Nat.le_trans hJm.em.ge nge19) (by
  intro p hp
  rcases List.mem_cons.1 hp with rfl | hp
  ·
   intro hc
   refine hJm.ne (18, 3, 23) (19, 3, 23) (by simp) (by simp) (by decide) (hLL 18 (by decide)) (hLL 19 (by decide)) ?_
   rw [e_18, e_19]
   exact congrArg (fun k => Value.pointer (some ⟨k, 0, none⟩)) hc
  have h1 := hJm.em.lt p hp
  have h2 := nge19
  omega) kl21
 clear hd hLL
 simp only [layS, Act.put, zzC, zzD, zzE, Nat.zero_add, Nat.reduceAdd, List.drop_succ_cons, List.drop_zero, List.drop_nil, e_0, e_1, e_2, e_3, e_4, e_5, e_6, e_7, e_8, e_9, e_10, e_11, e_12, e_13, e_14, e_15, e_16, e_17, e_18, e_19]
 have hJ2 := g19
 clear hJm e_0 e_1 e_2 e_3 e_4 e_5 e_6 e_7 e_8 e_9 e_10 e_11 e_12 e_13 e_14 e_15 e_16 e_17 e_18 e_19 nge18 nB18 ksz18 g18 nge19 nB19 ksz19 g19
 go_wp2
 obtain ⟨m4_2, hm⟩ : ∃ m, m = W2.heap.size := ⟨_, rfl⟩
 have hM := hJ2.em
 rw [← hm] at hM
 clear hm hJ2
 refine wp_region_z 6 [some 40, some 41, some 42, some 43, some 44, some 45] (veL m4_2 [.eq (.agg (cS w_.x)), .eq (.agg (cS (sqrS w_.x))), .eq (.agg (cS w_.y)), .eq (.agg (cS (sqrS w_.y))), .eq (.agg (cS (addS (sqrS w_.x) (sqrS w_.y)))), .eq (.agg (cS (negS (addS (sqrS w_.x) (sqrS w_.y)))))]) (Em w m4_2 [(kb21, (cS w_.y), 23), (kb20, (cS w_.x), 23), (bk1, (cS zS), 23)]) (by kernel_rfl) (by kernel_rfl) (by rfl) (by decide) (by rfl) hM ?_ ?_
 ·
  intro i hl hi uu ww aa hJ hd hev hin
  clear hM
  obtain rfl | rfl | rfl | rfl | rfl | rfl : i = 0 ∨ i = 1 ∨ i = 2 ∨ i = 3 ∨ i = 4 ∨ i = 5 := by omega
  ·
   exact .inr ⟨rfl, fun K' hK => wp_load 23 (.tmp 6) rfl kb20 0 3 (cS w_.x) (cS w_.x) 23 (hJ.es.at' _ (zzG (i := 1) rfl)) (eval_tmp ((hev 6 (by decide)).trans rfl)) ag23 sz23 (zzF (by kernel_rfl)) (by kernel_rfl) (hK _ _ hJ rfl veL_same)⟩
  ·
   exact .inr ⟨rfl, fun K' hK => wp_callv (.func 60) #[.tmp 40] _ 60 #[] #[.agg (cS w_.x)] #[.agg (cS w_.x)] rfl rfl (map1 (eval_tmp ((hin 0 40 rfl).trans (congrArg some (show uu 0 = .agg (cS w_.x) from hd 0 (by decide) (by kernel_rfl)))))) (by kernel_rfl) (fun _ _ => by kernel_rfl) (sSqr_any w_.x ww) (fun _ hB => (hK _ _ (hJ.later hB) rfl (veL_later hB)))⟩
  ·
   exact .inr ⟨rfl, fun K' hK => wp_load 23 (.tmp 7) rfl kb21 0 3 (cS w_.y) (cS w_.y) 23 (hJ.es.at' _ (zzG (i := 0) rfl)) (eval_tmp ((hev 7 (by decide)).trans rfl)) ag23 sz23 (zzF (by kernel_rfl)) (by kernel_rfl) (hK _ _ hJ rfl veL_same)⟩
  ·
   exact .inr ⟨rfl, fun K' hK => wp_callv (.func 60) #[.tmp 42] _ 60 #[] #[.agg (cS w_.y)] #[.agg (cS w_.y)] rfl rfl (map1 (eval_tmp ((hin 2 42 rfl).trans (congrArg some (show uu 2 = .agg (cS w_.y) from hd 2 (by decide) (by kernel_rfl)))))) (by kernel_rfl) (fun _ _ => by kernel_rfl) (sSqr_any w_.y ww) (fun _ hB => (hK _ _ (hJ.later hB) rfl (veL_later hB)))⟩
  ·
   exact .inr ⟨rfl, fun K' hK => wp_callv (.func 41) #[.tmp 41, .tmp 43] _ 41 #[] #[.agg (cS (sqrS w_.x)), .agg (cS (sqrS w_.y))] #[.agg (cS (sqrS w_.x)), .agg (cS (sqrS w_.y))] rfl rfl (map2 (eval_tmp ((hin 1 41 rfl).trans (congrArg some (show uu 1 = .agg (cS (sqrS w_.x)) from hd 1 (by decide) (by kernel_rfl))))) (eval_tmp ((hin 3 43 rfl).trans (congrArg some (show uu 3 = .agg (cS (sqrS w_.y)) from hd 3 (by decide) (by kernel_rfl)))))) (by kernel_rfl) (fun _ _ => by kernel_rfl) (sAdd_any (sqrS w_.x) (sqrS w_.y) ww) (fun _ hB => (hK _ _ (hJ.later hB) rfl (veL_later hB)))⟩
  ·
   exact .inr ⟨rfl, fun K' hK => wp_callv (.func 63) #[.tmp 44] _ 63 #[] #[.agg (cS (addS (sqrS w_.x) (sqrS w_.y)))] #[.agg (cS (addS (sqrS w_.x) (sqrS w_.y)))] rfl rfl (map1 (eval_tmp ((hin 4 44 rfl).trans (congrArg some (show uu 4 = .agg (cS (addS (sqrS w_.x) (sqrS w_.y))) from hd 4 (by decide) (by kernel_rfl)))))) (by kernel_rfl) (fun _ _ => by kernel_rfl) (sNeg_any (addS (sqrS w_.x) (sqrS w_.y)) ww) (fun _ hB => (hK _ _ (hJ.later hB) rfl (veL_later hB)))⟩
 clear hM
 intro uu W3 hJm hd
 have e_0 : uu 0 = .agg (cS w_.x) := hd 0 (by decide)
 have e_1 : uu 1 = .agg (cS (sqrS w_.x)) := hd 1 (by decide)
 have e_2 : uu 2 = .agg (cS w_.y) := hd 2 (by decide)
 have e_3 : uu 3 = .agg (cS (sqrS w_.y)) := hd 3 (by decide)
 have e_4 : uu 4 = .agg (cS (addS (sqrS w_.x) (sqrS w_.y))) := hd 4 (by decide)
 have e_5 : uu 5 = .agg (cS (negS (addS (sqrS w_.x) (sqrS w_.y)))) := hd 5 (by decide)
 clear hd
 simp only [layS, Act.put, zzC, zzD, zzE, Nat.zero_add, Nat.reduceAdd, List.drop_succ_cons, List.drop_zero, List.drop_nil, e_0, e_1, e_2, e_3, e_4, e_5]
 clear e_0 e_1 e_2 e_3 e_4 e_5
 have hJ3 := hJm.es
 clear hJm
 go_wp2_with (refine stop_store 23 (.tmp 5) (.tmp 45) 2 bk1 0 (cS zS) 23 3 (cS (negS (addS (sqrS w_.x) (sqrS w_.y)))).toList (cS (negS (addS (sqrS w_.x) (sqrS w_.y)))) [(kb21, (cS w_.y), 23), (kb20, (cS w_.x), 23), (bk1, (cS (negS (addS (sqrS w_.x) (sqrS w_.y)))), 23)] rfl rfl rfl rfl sz23 hJ3 rfl (by kernel_rfl) (zzF (by kernel_rfl)) (by kernel_rfl) (by kernel_rfl) (by kernel_rfl) (fun W4 hJ4 => ?_))
 clear hJ3
 unfold Stop
 try simp only [Act.put, zzC, zzD, zzE]
 go_wp2
 exact bodyPost_ret (v := .agg (cS (negS (addS (sqrS w_.x) (sqrS w_.y))))) (results_cell 2 Tryz.results64 hJ4 rfl ag23 sz23 (zzF (by kernel_rfl)) rfl (by kernel_rfl)) rfl ⟨rfl, hJ4.below⟩
end Go.Proofs.YtolpfibihialkaaGreat
