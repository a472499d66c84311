/- Parts of the proof. -/
import Derived.Test.YtolpfibihialkaaGreatGr0
import Derived.Test.YtolpfibihialkaaGreatGr36
import Derived.Test.YtolpfibihialkaaGreatGr37
import Derived.Test.YtolpfibihialkaaGreatGr28
/- Package rot: the walks of its functions. No statement of the seat is proved here. -/
namespace Go.Proofs.YtolpfibihialkaaGreat
open Go Go.RowKit
attribute [local go_sem ↓] run_vbuild
theorem tId1  {i j : Nat} (hi : i < 3) (hj : j < 3) (w : World)  : Calls Tryz.prog 43 #[.int .i64 (i : Int), .int .i64 (j : Int)] w (PVal (.agg (cS (atT idT i j))) w) := by
 rcases (by omega : i = 0 ∨ i = 1 ∨ i = 2) with rfl | rfl | rfl <;> rcases (by omega : j = 0 ∨ j = 1 ∨ j = 2) with rfl | rfl | rfl
 ·
  exact tId1_eq 0 w
 ·
  exact tId1_ne 0 1 (by decide) w
 ·
  exact tId1_ne 0 2 (by decide) w
 ·
  exact tId1_ne 1 0 (by decide) w
 ·
  exact tId1_eq 1 w
 ·
  exact tId1_ne 1 2 (by decide) w
 ·
  exact tId1_ne 2 0 (by decide) w
 ·
  exact tId1_ne 2 1 (by decide) w
 ·
  exact tId1_eq 2 w
theorem tAcr1 (b : Nat) (w_ : Vc) {i j : Nat} (hi : i < 3) (hj : j < 3) (w : World) (hb : Cl w (b, cV w_, 25)) : Calls Tryz.prog 62 #[.int .i64 (i : Int), .int .i64 (j : Int), .pointer (some ⟨b, 0, none⟩)] w (PVal (.agg (cS (atT (acrT w_) i j))) w) := by
 rcases (by omega : i = 0 ∨ i = 1 ∨ i = 2) with rfl | rfl | rfl <;> rcases (by omega : j = 0 ∨ j = 1 ∨ j = 2) with rfl | rfl | rfl
 ·
  exact tAcr_eq b w_ 0 w hb
 ·
  exact tAcr01 b w_ w hb
 ·
  exact tAcr02 b w_ w hb
 ·
  exact tAcr10 b w_ w hb
 ·
  exact tAcr_eq b w_ 1 w hb
 ·
  exact tAcr12 b w_ w hb
 ·
  exact tAcr20 b w_ w hb
 ·
  exact tAcr21 b w_ w hb
 ·
  exact tAcr_eq b w_ 2 w hb
theorem tTwi1 (b : Nat) (w_ : Vc) {i j : Nat} (hi : i < 3) (hj : j < 3) (w : World) (hb : Cl w (b, cV w_, 25)) : Calls Tryz.prog 64 #[.int .i64 (i : Int), .int .i64 (j : Int), .pointer (some ⟨b, 0, none⟩)] w (PVal (.agg (cS (atT (twiT w_) i j))) w) := by
 rcases (by omega : i = 0 ∨ i = 1 ∨ i = 2) with rfl | rfl | rfl <;> rcases (by omega : j = 0 ∨ j = 1 ∨ j = 2) with rfl | rfl | rfl
 ·
  exact tTwi00 b w_ w hb
 ·
  exact tTwi01 b w_ w hb
 ·
  exact tTwi02 b w_ w hb
 ·
  exact tTwi10 b w_ w hb
 ·
  exact tTwi11 b w_ w hb
 ·
  exact tTwi12 b w_ w hb
 ·
  exact tTwi20 b w_ w hb
 ·
  exact tTwi21 b w_ w hb
 ·
  exact tTwi22 b w_ w hb
theorem at_turn (r : Tu) {i j : Nat} (hi : i < 3) (hj : j < 3) : atT (turnT r) i j = atT r j i := by
 rcases (by omega : i = 0 ∨ i = 1 ∨ i = 2) with rfl | rfl | rfl <;> rcases (by omega : j = 0 ∨ j = 1 ∨ j = 2) with rfl | rfl | rfl <;> rfl
theorem at_mul (r q : Tu) {i j : Nat} (hi : i < 3) (hj : j < 3) : atT (mulT r q) i j = dotV (rowT r i) (rowT (turnT q) j) := by
 rcases (by omega : i = 0 ∨ i = 1 ∨ i = 2) with rfl | rfl | rfl <;> rcases (by omega : j = 0 ∨ j = 1 ∨ j = 2) with rfl | rfl | rfl <;> rfl
theorem at_plc (d k l : Tu) (x y : Sp) {i j : Nat} (hi : i < 3) (hj : j < 3) : atT (plcT d x k y l) i j = addS (addS (atT d i j) (mulS x (atT k i j))) (mulS y (atT l i j)) := by
 rcases (by omega : i = 0 ∨ i = 1 ∨ i = 2) with rfl | rfl | rfl <;> rcases (by omega : j = 0 ∨ j = 1 ∨ j = 2) with rfl | rfl | rfl <;> rfl
set_option maxRecDepth 100000 in
set_option maxHeartbeats 12800000 in
theorem tId_any   (w : World)   : Calls Tryz.prog 22 #[] w (PVal (.agg (cT idT)) w) := by
 have hJ0 := es_nil w
 go_enter Tryz.func22, Tryz.ntmps22
 go_wp2_with (refine stop_alloc 27 (cT zT) (.agg (cT zT)) rfl rfl zv27 rfl hJ0 (fun bk1 W1 hJ1 => ?_))
 clear hJ0
 unfold Stop
 try simp only [Act.put, zzC, zzD, zzE]
 go_wp2_with fail
 refine (mkT_any 43 #[] (fun i j => #[.int .i64 i, .int .i64 j]) idT (fun _ _ => by simp) (fun _ _ => by kernel_rfl) W1 (fun i j hi hj W' hB => tId1 hi hj W')).mono ?_
 rintro zz W2 ⟨rfl, hB⟩
 have hJ2 := hJ1.later hB
 clear hB
 clear hJ1
 go_wp2_with (refine stop_store 27 (.tmp 0) (.tmp 1) 0 bk1 0 (cT zT) 27 27 (cT idT).toList (cT idT) [(bk1, (cT idT), 27)] rfl rfl rfl rfl sz27 hJ2 rfl (by kernel_rfl) (zzF (by kernel_rfl)) (by kernel_rfl) (by kernel_rfl) (by kernel_rfl) (fun W3 hJ3 => ?_))
 clear hJ2
 unfold Stop
 try simp only [Act.put, zzC, zzD, zzE]
 go_wp2
 exact bodyPost_ret (v := .agg (cT idT)) (results_cell 0 Tryz.results22 hJ3 rfl ag27 sz27 (zzF (by kernel_rfl)) rfl (by kernel_rfl)) rfl ⟨rfl, hJ3.below⟩
set_option maxRecDepth 100000 in
set_option maxHeartbeats 12800000 in
theorem tAcr_any (w_ : Vc)  (w : World)   : Calls Tryz.prog 38 #[.agg (cV w_)] w (PVal (.agg (cT (acrT w_))) w) := by
 have hJ0 := es_nil w
 go_enter Tryz.func38, Tryz.ntmps38
 go_wp2_with (refine stop_box 25 (.tmp 0) (cV w_) rfl rfl rfl hJ0 (fun bk1 W1 hJ1 => ?_))
 clear hJ0
 unfold Stop
 try simp only [Act.put, zzC, zzD, zzE]
 go_wp2_with (refine stop_alloc 27 (cT zT) (.agg (cT zT)) rfl rfl zv27 rfl hJ1 (fun bk2 W2 hJ2 => ?_))
 clear hJ1
 unfold Stop
 try simp only [Act.put, zzC, zzD, zzE]
 go_wp2_with fail
 refine (mkT_any 62 #[.pointer (some ⟨bk1, 0, none⟩)] (fun i j => #[.int .i64 i, .int .i64 j, .pointer (some ⟨bk1, 0, none⟩)]) (acrT w_) (fun _ _ => by simp) (fun _ _ => by kernel_rfl) W2 (fun i j hi hj W' hB => tAcr1 bk1 w_ hi hj W' ((hJ2.at' _ (zzG (i := 1) rfl)).below hB))).mono ?_
 rintro zz W3 ⟨rfl, hB⟩
 have hJ3 := hJ2.later hB
 clear hB
 clear hJ2
 go_wp2_with (refine stop_store 27 (.tmp 2) (.tmp 4) 0 bk2 0 (cT zT) 27 27 (cT (acrT w_)).toList (cT (acrT w_)) [(bk2, (cT (acrT w_)), 27), (bk1, (cV w_), 25)] rfl rfl rfl rfl sz27 hJ3 rfl (by kernel_rfl) (zzF (by kernel_rfl)) (by kernel_rfl) (by kernel_rfl) (by kernel_rfl) (fun W4 hJ4 => ?_))
 clear hJ3
 unfold Stop
 try simp only [Act.put, zzC, zzD, zzE]
 go_wp2
 exact bodyPost_ret (v := .agg (cT (acrT w_))) (results_cell 0 Tryz.results38 hJ4 rfl ag27 sz27 (zzF (by kernel_rfl)) rfl (by kernel_rfl)) rfl ⟨rfl, hJ4.below⟩
set_option maxRecDepth 100000 in
set_option maxHeartbeats 12800000 in
theorem tTwi_any (w_ : Vc)  (w : World)   : Calls Tryz.prog 39 #[.agg (cV w_)] w (PVal (.agg (cT (twiT w_))) w) := by
 have hJ0 := es_nil w
 go_enter Tryz.func39, Tryz.ntmps39
 go_wp2_with (refine stop_box 25 (.tmp 0) (cV w_) rfl rfl rfl hJ0 (fun bk1 W1 hJ1 => ?_))
 clear hJ0
 unfold Stop
 try simp only [Act.put, zzC, zzD, zzE]
 go_wp2_with (refine stop_alloc 27 (cT zT) (.agg (cT zT)) rfl rfl zv27 rfl hJ1 (fun bk2 W2 hJ2 => ?_))
 clear hJ1
 unfold Stop
 try simp only [Act.put, zzC, zzD, zzE]
 go_wp2_with fail
 refine (mkT_any 64 #[.pointer (some ⟨bk1, 0, none⟩)] (fun i j => #[.int .i64 i, .int .i64 j, .pointer (some ⟨bk1, 0, none⟩)]) (twiT w_) (fun _ _ => by simp) (fun _ _ => by kernel_rfl) W2 (fun i j hi hj W' hB => tTwi1 bk1 w_ hi hj W' ((hJ2.at' _ (zzG (i := 1) rfl)).below hB))).mono ?_
 rintro zz W3 ⟨rfl, hB⟩
 have hJ3 := hJ2.later hB
 clear hB
 clear hJ2
 go_wp2_with (refine stop_store 27 (.tmp 2) (.tmp 4) 0 bk2 0 (cT zT) 27 27 (cT (twiT w_)).toList (cT (twiT w_)) [(bk2, (cT (twiT w_)), 27), (bk1, (cV w_), 25)] rfl rfl rfl rfl sz27 hJ3 rfl (by kernel_rfl) (zzF (by kernel_rfl)) (by kernel_rfl) (by kernel_rfl) (by kernel_rfl) (fun W4 hJ4 => ?_))
 clear hJ3
 unfold Stop
 try simp only [Act.put, zzC, zzD, zzE]
 go_wp2
 exact bodyPost_ret (v := .agg (cT (twiT w_))) (results_cell 0 Tryz.results39 hJ4 rfl ag27 sz27 (zzF (by kernel_rfl)) rfl (by kernel_rfl)) rfl ⟨rfl, hJ4.below⟩
set_option maxRecDepth 100000 in
set_option maxHeartbeats 12800000 in
theorem tTurn_any (r : Tu)  (w : World)   : Calls Tryz.prog 9 #[.agg (cT r)] w (PVal (.agg (cT (turnT r))) w) := by
 have hJ0 := es_nil w
 go_enter Tryz.func9, Tryz.ntmps9
 go_wp2_with (refine stop_box 27 (.tmp 0) (cT r) rfl rfl rfl hJ0 (fun bk1 W1 hJ1 => ?_))
 clear hJ0
 unfold Stop
 try simp only [Act.put, zzC, zzD, zzE]
 go_wp2_with (refine stop_alloc 27 (cT zT) (.agg (cT zT)) rfl rfl zv27 rfl hJ1 (fun bk2 W2 hJ2 => ?_))
 clear hJ1
 unfold Stop
 try simp only [Act.put, zzC, zzD, zzE]
 go_wp2_with fail
 refine (mkT_any 27 #[.pointer (some ⟨bk1, 0, none⟩)] (fun i j => #[.int .i64 i, .int .i64 j, .pointer (some ⟨bk1, 0, none⟩)]) (turnT r) (fun _ _ => by simp) (fun _ _ => by kernel_rfl) W2 (fun i j hi hj W' hB => by rw [at_turn r hi hj]; exact tTurn1 bk1 r hi hj W' ((hJ2.at' _ (zzG (i := 1) rfl)).below hB))).mono ?_
 rintro zz W3 ⟨rfl, hB⟩
 have hJ3 := hJ2.later hB
 clear hB
 clear hJ2
 go_wp2_with (refine stop_store 27 (.tmp 2) (.tmp 4) 0 bk2 0 (cT zT) 27 27 (cT (turnT r)).toList (cT (turnT r)) [(bk2, (cT (turnT r)), 27), (bk1, (cT r), 27)] rfl rfl rfl rfl sz27 hJ3 rfl (by kernel_rfl) (zzF (by kernel_rfl)) (by kernel_rfl) (by kernel_rfl) (by kernel_rfl) (fun W4 hJ4 => ?_))
 clear hJ3
 unfold Stop
 try simp only [Act.put, zzC, zzD, zzE]
 go_wp2
 exact bodyPost_ret (v := .agg (cT (turnT r))) (results_cell 0 Tryz.results9 hJ4 rfl ag27 sz27 (zzF (by kernel_rfl)) rfl (by kernel_rfl)) rfl ⟨rfl, hJ4.below⟩
set_option maxRecDepth 100000 in
set_option maxHeartbeats 12800000 in
theorem tMul_any (r q : Tu)  (w : World)   : Calls Tryz.prog 6 #[.agg (cT r), .agg (cT q)] w (PVal (.agg (cT (mulT r q))) w) := by
 have hJ0 := es_nil w
 go_enter Tryz.func6, Tryz.ntmps6
 go_wp2_with (refine stop_box 27 (.tmp 0) (cT r) rfl rfl rfl hJ0 (fun bk1 W1 hJ1 => ?_))
 clear hJ0
 unfold Stop
 try simp only [Act.put, zzC, zzD, zzE]
 go_wp2_with (refine stop_box 27 (.tmp 1) (cT q) rfl rfl rfl hJ1 (fun bk2 W2 hJ2 => ?_))
 clear hJ1
 unfold Stop
 try simp only [Act.put, zzC, zzD, zzE]
 go_wp2_with (refine stop_alloc 27 (cT zT) (.agg (cT zT)) rfl rfl zv27 rfl hJ2 (fun bk3 W3 hJ3 => ?_))
 clear hJ2
 unfold Stop
 try simp only [Act.put, zzC, zzD, zzE]
 go_wp2_with (refine stop_op rfl (fun K hK => wp_load 27 (.tmp 3) rfl bk2 0 27 (cT q) (cT q) 27 (hJ3.at' _ (zzG (i := 1) rfl)) rfl ag27 sz27 (zzF (by kernel_rfl)) (by kernel_rfl) (hK _ _ ?_)))
 unfold Stop
 try simp only [Act.put, zzC, zzD, zzE]
 go_wp2_with fail
 refine (tTurn_any q W3).mono ?_
 rintro zz W4 ⟨rfl, hB⟩
 have hJ4 := hJ3.later hB
 clear hB
 clear hJ3
 go_wp2_with (refine stop_alloc 27 (cT zT) (.agg (cT zT)) rfl rfl zv27 rfl hJ4 (fun bk4 W5 hJ5 => ?_))
 clear hJ4
 unfold Stop
 try simp only [Act.put, zzC, zzD, zzE]
 go_wp2_with (refine stop_store 27 (.tmp 5) (.tmp 7) 0 bk4 0 (cT zT) 27 27 (cT (turnT q)).toList (cT (turnT q)) [(bk4, (cT (turnT q)), 27), (bk3, (cT zT), 27), (bk2, (cT q), 27), (bk1, (cT r), 27)] rfl rfl rfl rfl sz27 hJ5 rfl (by kernel_rfl) (zzF (by kernel_rfl)) (by kernel_rfl) (by kernel_rfl) (by kernel_rfl) (fun W6 hJ6 => ?_))
 clear hJ5
 unfold Stop
 try simp only [Act.put, zzC, zzD, zzE]
 go_wp2_with fail
 refine (mkT_any 25 #[.pointer (some ⟨bk1, 0, none⟩), .pointer (some ⟨bk4, 0, none⟩)] (fun i j => #[.int .i64 i, .int .i64 j, .pointer (some ⟨bk1, 0, none⟩), .pointer (some ⟨bk4, 0, none⟩)]) (mulT r q) (fun _ _ => by simp) (fun _ _ => by kernel_rfl) W6 (fun i j hi hj W' hB => by rw [at_mul r q hi hj]; exact tMul1 bk1 bk4 r (turnT q) hi hj W' ((hJ6.at' _ (zzG (i := 3) rfl)).below hB) ((hJ6.at' _ (zzG (i := 0) rfl)).below hB))).mono ?_
 rintro zz W7 ⟨rfl, hB⟩
 have hJ7 := hJ6.later hB
 clear hB
 clear hJ6
 go_wp2_with (refine stop_store 27 (.tmp 4) (.tmp 9) 1 bk3 0 (cT zT) 27 27 (cT (mulT r q)).toList (cT (mulT r q)) [(bk4, (cT (turnT q)), 27), (bk3, (cT (mulT r q)), 27), (bk2, (cT q), 27), (bk1, (cT r), 27)] rfl rfl rfl rfl sz27 hJ7 rfl (by kernel_rfl) (zzF (by kernel_rfl)) (by kernel_rfl) (by kernel_rfl) (by kernel_rfl) (fun W8 hJ8 => ?_))
 clear hJ7
 unfold Stop
 try simp only [Act.put, zzC, zzD, zzE]
 go_wp2
 exact bodyPost_ret (v := .agg (cT (mulT r q))) (results_cell 1 Tryz.results6 hJ8 rfl ag27 sz27 (zzF (by kernel_rfl)) rfl (by kernel_rfl)) rfl ⟨rfl, hJ8.below⟩
set_option maxRecDepth 100000 in
set_option maxHeartbeats 12800000 in
theorem tExp_any (w_ : Vc)  (w : World)   : Calls Tryz.prog 20 #[.agg (cV w_)] w (PVal (.agg (cT (expT w_))) w) := by
 have hJ0 := es_nil w
 go_enter Tryz.func20, Tryz.ntmps20
 go_wp2_with (refine stop_box 25 (.tmp 0) (cV w_) rfl rfl rfl hJ0 (fun bk1 W1 hJ1 => ?_))
 clear hJ0
 unfold Stop
 try simp only [Act.put, zzC, zzD, zzE]
 go_wp2_with (refine stop_alloc 27 (cT zT) (.agg (cT zT)) rfl rfl zv27 rfl hJ1 (fun bk2 W2 hJ2 => ?_))
 clear hJ1
 unfold Stop
 try simp only [Act.put, zzC, zzD, zzE]
 go_wp2_with (refine stop_op rfl (fun K hK => wp_load 25 (.tmp 1) rfl bk1 0 9 (cV w_) (cV w_) 25 (hJ2.at' _ (zzG (i := 1) rfl)) rfl ag25 sz25 (zzF (by kernel_rfl)) (by kernel_rfl) (hK _ _ ?_)))
 unfold Stop
 try simp only [Act.put, zzC, zzD, zzE]
 go_wp2_with fail
 refine (vNorm_any w_ W2).mono ?_
 rintro zz W3 ⟨rfl, hB⟩
 have hJ3 := hJ2.later hB
 clear hB
 clear hJ2
 go_wp2_with (refine stop_alloc 23 (cS zS) (.agg (cS zS)) rfl rfl zv23 rfl hJ3 (fun bk3 W4 hJ4 => ?_))
 clear hJ3
 unfold Stop
 try simp only [Act.put, zzC, zzD, zzE]
 go_wp2_with (refine stop_store 23 (.tmp 3) (.tmp 10) 0 bk3 0 (cS zS) 23 3 (cS (normV w_)).toList (cS (normV w_)) [(bk3, (cS (normV w_)), 23), (bk2, (cT zT), 27), (bk1, (cV w_), 25)] rfl rfl rfl rfl sz23 hJ4 rfl (by kernel_rfl) (zzF (by kernel_rfl)) (by kernel_rfl) (by kernel_rfl) (by kernel_rfl) (fun W5 hJ5 => ?_))
 clear hJ4
 unfold Stop
 try simp only [Act.put, zzC, zzD, zzE]
 go_wp2
 obtain ⟨m2_5, hm⟩ : ∃ m, m = W5.heap.size := ⟨_, rfl⟩
 have hM : ∀ uu, Jz w m2_5 [(bk3, (cS (normV w_)), 23), (bk2, (cT zT), 27), (bk1, (cV w_), 25)] [(4, 3, 23), (5, 3, 23)] [(6, 4, (cS (encS 1 (normV w_))), 23), (7, 5, (cS (encS 2 (normV w_))), 23)] (fun _ => false) uu W5.drew := fun uu => by rw [hm]; exact Jz.start hJ5 uu
 clear hm hJ5
 refine wp_region_y 8 [some 11, some 12, some 13, some 14, some 4, some 5, none, none] (veL m2_5 [.eq (.agg (cS (normV w_))), .eq (.agg (cS (encS 1 (normV w_)))), .eq (.agg (cS (normV w_))), .eq (.agg (cS (encS 2 (normV w_)))), .any, .any, .any, .any]) (Jz w m2_5 [(bk3, (cS (normV w_)), 23), (bk2, (cT zT), 27), (bk1, (cV w_), 25)] [(4, 3, 23), (5, 3, 23)] [(6, 4, (cS (encS 1 (normV w_))), 23), (7, 5, (cS (encS 2 (normV w_))), 23)]) (by kernel_rfl) (by kernel_rfl) (by rfl) (by decide) (by rfl) hM ?_ ?_
 ·
  intro i hl hi LL uu ww aa hLi hJ hd hev hin
  clear hM
  obtain rfl | rfl | rfl | rfl | rfl | rfl | rfl | rfl : i = 0 ∨ i = 1 ∨ i = 2 ∨ i = 3 ∨ i = 4 ∨ i = 5 ∨ i = 6 ∨ i = 7 := by omega
  ·
   exact .inr ⟨rfl, fun K' hK => wp_load 23 (.tmp 3) rfl bk3 0 3 (cS (normV w_)) (cS (normV w_)) 23 (hJ.em.es.at' _ (zzG (i := 0) rfl)) (eval_tmp ((hev 3 (by decide)).trans rfl)) ag23 sz23 (zzF (by kernel_rfl)) (by kernel_rfl) (hK _ _ (hJ.grow hLi (by simp) (by simp) (Below.refl _ _)) rfl veL_same)⟩
  ·
   exact .inr ⟨rfl, fun K' hK => wp_callv (.func 36) #[.tmp 11] _ 36 #[] #[.agg (cS (normV w_))] #[.agg (cS (normV w_))] rfl rfl (map1 (eval_tmp ((hin 0 11 rfl).trans (congrArg some (show uu 0 = .agg (cS (normV w_)) from (hd 0 (by decide) (by kernel_rfl)).2))))) (by kernel_rfl) (fun _ _ => by kernel_rfl) (kA_any (normV w_) ww) (fun _ hB => (hK _ _ (hJ.grow hLi (by simp) (by simp) hB) rfl (veL_flat rfl)))⟩
  ·
   exact .inr ⟨rfl, fun K' hK => wp_load 23 (.tmp 3) rfl bk3 0 3 (cS (normV w_)) (cS (normV w_)) 23 (hJ.em.es.at' _ (zzG (i := 0) rfl)) (eval_tmp ((hev 3 (by decide)).trans rfl)) ag23 sz23 (zzF (by kernel_rfl)) (by kernel_rfl) (hK _ _ (hJ.grow hLi (by simp) (by simp) (Below.refl _ _)) rfl veL_same)⟩
  ·
   exact .inr ⟨rfl, fun K' hK => wp_callv (.func 37) #[.tmp 13] _ 37 #[] #[.agg (cS (normV w_))] #[.agg (cS (normV w_))] rfl rfl (map1 (eval_tmp ((hin 2 13 rfl).trans (congrArg some (show uu 2 = .agg (cS (normV w_)) from (hd 2 (by decide) (by kernel_rfl)).2))))) (by kernel_rfl) (fun _ _ => by kernel_rfl) (kB_any (normV w_) ww) (fun _ hB => (hK _ _ (hJ.grow hLi (by simp) (by simp) hB) rfl (veL_flat rfl)))⟩
  ·
   exact .inr ⟨rfl, fun K' hK => wp_alloc 23 rfl (.agg (cS zS)) zv23 (hK _ _ (hJ.alloc hLi (n := 3) rfl (by simp) (by simp)) trivial (veL_flat rfl))⟩
  ·
   exact .inr ⟨rfl, fun K' hK => wp_alloc 23 rfl (.agg (cS zS)) zv23 (hK _ _ (hJ.alloc hLi (n := 3) rfl (by simp) (by simp)) trivial (veL_flat rfl))⟩
  ·
   have hLa := (hd 4 (by decide) (by kernel_rfl)).1
   obtain ⟨kb, kC, ke, kge, ksz, kcl⟩ := hJ.bx (4, 3, 23) (by simp) hLa
   have x4 : aa.tmps[4]? = some (.pointer (some ⟨kb, 0, none⟩)) := (hin 4 4 rfl).trans (congrArg some ke)
   have x12 : aa.tmps[12]? = some (.agg (cS (encS 1 (normV w_)))) := ((hin 1 12 rfl).trans (congrArg some (show uu 1 = .agg (cS (encS 1 (normV w_))) from (hd 1 (by decide) (by kernel_rfl)).2)))
   clear hd hev hin
   simp only [zzA, zzB]
   clear hl
   refine .inr ⟨rfl, fun K' hK => ?_⟩
   have HK := Lib.hid hK
   clear hK
   refine wp_store 23 (.tmp 4) (.tmp 12) rfl 0 kb 0 kC 23 3 (cS (encS 1 (normV w_))).toList (hJ.em.join kge kcl) rfl (eval_tmp x4) (by rw [eval_tmp x12]; rfl) sz23 (by kernel_rfl) (by rw [ksz]; decide) (by kernel_rfl) (fun ww2 hE hk hz => ?_)
   rw [putC_full (show kC.size = (cS (encS 1 (normV w_))).toList.length from ksz), Array.toArray_toList] at hE
   exact HK.out undef _ (hJ.store (a := 4) (n := 3) (T := 23) (Cn := (cS (encS 1 (normV w_)))) hLi (by simp) (by simp) (by simp) (by simp) (by simp) (by simp) hLa ke kge rfl hE hk hz) trivial (veL_flat rfl)
  ·
   have hLa := (hd 5 (by decide) (by kernel_rfl)).1
   obtain ⟨kb, kC, ke, kge, ksz, kcl⟩ := hJ.bx (5, 3, 23) (by simp) hLa
   have x5 : aa.tmps[5]? = some (.pointer (some ⟨kb, 0, none⟩)) := (hin 5 5 rfl).trans (congrArg some ke)
   have x14 : aa.tmps[14]? = some (.agg (cS (encS 2 (normV w_)))) := ((hin 3 14 rfl).trans (congrArg some (show uu 3 = .agg (cS (encS 2 (normV w_))) from (hd 3 (by decide) (by kernel_rfl)).2)))
   clear hd hev hin
   simp only [zzA, zzB]
   clear hl
   refine .inr ⟨rfl, fun K' hK => ?_⟩
   have HK := Lib.hid hK
   clear hK
   refine wp_store 23 (.tmp 5) (.tmp 14) rfl 0 kb 0 kC 23 3 (cS (encS 2 (normV w_))).toList (hJ.em.join kge kcl) rfl (eval_tmp x5) (by rw [eval_tmp x14]; rfl) sz23 (by kernel_rfl) (by rw [ksz]; decide) (by kernel_rfl) (fun ww2 hE hk hz => ?_)
   rw [putC_full (show kC.size = (cS (encS 2 (normV w_))).toList.length from ksz), Array.toArray_toList] at hE
   exact HK.out undef _ (hJ.store (a := 5) (n := 3) (T := 23) (Cn := (cS (encS 2 (normV w_)))) hLi (by simp) (by simp) (by simp) (by simp) (by simp) (by simp) hLa ke kge rfl hE hk hz) trivial (veL_flat rfl)
 clear hM
 intro LL uu W6 hLL hJm hd
 have e_0 : uu 0 = .agg (cS (normV w_)) := hd 0 (by decide)
 have e_1 : uu 1 = .agg (cS (encS 1 (normV w_))) := hd 1 (by decide)
 have e_2 : uu 2 = .agg (cS (normV w_)) := hd 2 (by decide)
 have e_3 : uu 3 = .agg (cS (encS 2 (normV w_))) := hd 3 (by decide)
 obtain ⟨bk4, kC4, e_4, nge4, ksz4, nB4⟩ := hJm.bx (4, 3, 23) (by simp) (hLL 4 (by decide))
 obtain ⟨bk5, kC5, e_5, nge5, ksz5, nB5⟩ := hJm.bx (5, 3, 23) (by simp) (hLL 5 (by decide))
 obtain ⟨_, kb6, ke6, kl6⟩ := hJm.st (6, 4, (cS (encS 1 (normV w_))), 23) (by simp) (hLL 6 (by decide))
 have kq6 : kb6 = bk4 := by
  have hq := ke6.symm.trans e_4
  injection hq with hq
  injection hq with hq
  injection hq with hq
 subst kq6
 clear ke6
 obtain ⟨_, kb7, ke7, kl7⟩ := hJm.st (7, 5, (cS (encS 2 (normV w_))), 23) (by simp) (hLL 7 (by decide))
 have kq7 : kb7 = bk5 := by
  have hq := ke7.symm.trans e_5
  injection hq with hq
  injection hq with hq
  injection hq with hq
 subst kq7
 clear ke7
 have g4 := hJm.em.join nge4 kl6
 have g5 : Es w W6 _ := Es.join g4 (Nat.le_trans hJm.em.ge nge5) (by
  intro p hp
  rcases List.mem_cons.1 hp with rfl | hp
  ·
   intro hc
   refine hJm.ne (4, 3, 23) (5, 3, 23) (by simp) (by simp) (by decide) (hLL 4 (by decide)) (hLL 5 (by decide)) ?_
   rw [e_4, e_5]
   exact congrArg (fun k => Value.pointer (some ⟨k, 0, none⟩)) hc
  have h1 := hJm.em.lt p hp
  have h2 := nge5
  omega) kl7
 clear hd hLL
 simp only [layS, Act.put, zzC, zzD, zzE, Nat.zero_add, Nat.reduceAdd, List.drop_succ_cons, List.drop_zero, List.drop_nil, e_0, e_1, e_2, e_3, e_4, e_5]
 have hJ6 := g5
 clear hJm e_0 e_1 e_2 e_3 e_4 e_5 nge4 nB4 ksz4 g4 nge5 nB5 ksz5 g5
 go_wp2
 obtain ⟨m3_6, hm⟩ : ∃ m, m = W6.heap.size := ⟨_, rfl⟩
 have hM : ∀ uu, Jz w m3_6 [(kb7, (cS (encS 2 (normV w_))), 23), (kb6, (cS (encS 1 (normV w_))), 23), (bk3, (cS (normV w_)), 23), (bk2, (cT zT), 27), (bk1, (cV w_), 25)] [(5, 27, 27), (6, 27, 27), (7, 27, 27)] [(8, 5, (cT idT), 27), (9, 6, (cT (acrT w_)), 27), (10, 7, (cT (twiT w_)), 27)] (fun _ => false) uu W6.drew := fun uu => by rw [hm]; exact Jz.start hJ6 uu
 clear hm hJ6
 refine wp_region_y 11 [some 15, some 16, some 17, some 18, some 19, some 6, some 7, some 8, none, none, none] (veL m3_6 [.eq (.agg (cT idT)), .eq (.agg (cV w_)), .eq (.agg (cT (acrT w_))), .eq (.agg (cV w_)), .eq (.agg (cT (twiT w_))), .any, .any, .any, .any, .any, .any]) (Jz w m3_6 [(kb7, (cS (encS 2 (normV w_))), 23), (kb6, (cS (encS 1 (normV w_))), 23), (bk3, (cS (normV w_)), 23), (bk2, (cT zT), 27), (bk1, (cV w_), 25)] [(5, 27, 27), (6, 27, 27), (7, 27, 27)] [(8, 5, (cT idT), 27), (9, 6, (cT (acrT w_)), 27), (10, 7, (cT (twiT w_)), 27)]) (by kernel_rfl) (by kernel_rfl) (by rfl) (by decide) (by rfl) hM ?_ ?_
 ·
  intro i hl hi LL uu ww aa hLi hJ hd hev hin
  clear hM
  obtain rfl | rfl | rfl | rfl | rfl | rfl | rfl | rfl | rfl | rfl | rfl : i = 0 ∨ i = 1 ∨ i = 2 ∨ i = 3 ∨ i = 4 ∨ i = 5 ∨ i = 6 ∨ i = 7 ∨ i = 8 ∨ i = 9 ∨ i = 10 := by omega
  ·
   exact .inr ⟨rfl, fun K' hK => wp_callv (.func 22) #[] _ 22 #[] #[] #[] rfl rfl (by simp) (by kernel_rfl) (fun _ _ => by kernel_rfl) (tId_any ww) (fun _ hB => (hK _ _ (hJ.grow hLi (by simp) (by simp) hB) rfl (veL_flat rfl)))⟩
  ·
   exact .inr ⟨rfl, fun K' hK => wp_load 25 (.tmp 1) rfl bk1 0 9 (cV w_) (cV w_) 25 (hJ.em.es.at' _ (zzG (i := 4) rfl)) (eval_tmp ((hev 1 (by decide)).trans rfl)) ag25 sz25 (zzF (by kernel_rfl)) (by kernel_rfl) (hK _ _ (hJ.grow hLi (by simp) (by simp) (Below.refl _ _)) rfl veL_same)⟩
  ·
   exact .inr ⟨rfl, fun K' hK => wp_callv (.func 38) #[.tmp 16] _ 38 #[] #[.agg (cV w_)] #[.agg (cV w_)] rfl rfl (map1 (eval_tmp ((hin 1 16 rfl).trans (congrArg some (show uu 1 = .agg (cV w_) from (hd 1 (by decide) (by kernel_rfl)).2))))) (by kernel_rfl) (fun _ _ => by kernel_rfl) (tAcr_any w_ ww) (fun _ hB => (hK _ _ (hJ.grow hLi (by simp) (by simp) hB) rfl (veL_flat rfl)))⟩
  ·
   exact .inr ⟨rfl, fun K' hK => wp_load 25 (.tmp 1) rfl bk1 0 9 (cV w_) (cV w_) 25 (hJ.em.es.at' _ (zzG (i := 4) rfl)) (eval_tmp ((hev 1 (by decide)).trans rfl)) ag25 sz25 (zzF (by kernel_rfl)) (by kernel_rfl) (hK _ _ (hJ.grow hLi (by simp) (by simp) (Below.refl _ _)) rfl veL_same)⟩
  ·
   exact .inr ⟨rfl, fun K' hK => wp_callv (.func 39) #[.tmp 18] _ 39 #[] #[.agg (cV w_)] #[.agg (cV w_)] rfl rfl (map1 (eval_tmp ((hin 3 18 rfl).trans (congrArg some (show uu 3 = .agg (cV w_) from (hd 3 (by decide) (by kernel_rfl)).2))))) (by kernel_rfl) (fun _ _ => by kernel_rfl) (tTwi_any w_ ww) (fun _ hB => (hK _ _ (hJ.grow hLi (by simp) (by simp) hB) rfl (veL_flat rfl)))⟩
  ·
   exact .inr ⟨rfl, fun K' hK => wp_alloc 27 rfl (.agg (cT zT)) zv27 (hK _ _ (hJ.alloc hLi (n := 27) rfl (by simp) (by simp)) trivial (veL_flat rfl))⟩
  ·
   exact .inr ⟨rfl, fun K' hK => wp_alloc 27 rfl (.agg (cT zT)) zv27 (hK _ _ (hJ.alloc hLi (n := 27) rfl (by simp) (by simp)) trivial (veL_flat rfl))⟩
  ·
   exact .inr ⟨rfl, fun K' hK => wp_alloc 27 rfl (.agg (cT zT)) zv27 (hK _ _ (hJ.alloc hLi (n := 27) rfl (by simp) (by simp)) trivial (veL_flat rfl))⟩
  ·
   have hLa := (hd 5 (by decide) (by kernel_rfl)).1
   obtain ⟨kb, kC, ke, kge, ksz, kcl⟩ := hJ.bx (5, 27, 27) (by simp) hLa
   have x6 : aa.tmps[6]? = some (.pointer (some ⟨kb, 0, none⟩)) := (hin 5 6 rfl).trans (congrArg some ke)
   have x15 : aa.tmps[15]? = some (.agg (cT idT)) := ((hin 0 15 rfl).trans (congrArg some (show uu 0 = .agg (cT idT) from (hd 0 (by decide) (by kernel_rfl)).2)))
   clear hd hev hin
   simp only [zzA, zzB]
   clear hl
   refine .inr ⟨rfl, fun K' hK => ?_⟩
   have HK := Lib.hid hK
   clear hK
   refine wp_store 27 (.tmp 6) (.tmp 15) rfl 0 kb 0 kC 27 27 (cT idT).toList (hJ.em.join kge kcl) rfl (eval_tmp x6) (by rw [eval_tmp x15]; rfl) sz27 (by kernel_rfl) (by rw [ksz]; decide) (by kernel_rfl) (fun ww2 hE hk hz => ?_)
   rw [putC_full (show kC.size = (cT idT).toList.length from ksz), Array.toArray_toList] at hE
   exact HK.out undef _ (hJ.store (a := 5) (n := 27) (T := 27) (Cn := (cT idT)) hLi (by simp) (by simp) (by simp) (by simp) (by simp) (by simp) hLa ke kge rfl hE hk hz) trivial (veL_flat rfl)
  ·
   have hLa := (hd 6 (by decide) (by kernel_rfl)).1
   obtain ⟨kb, kC, ke, kge, ksz, kcl⟩ := hJ.bx (6, 27, 27) (by simp) hLa
   have x7 : aa.tmps[7]? = some (.pointer (some ⟨kb, 0, none⟩)) := (hin 6 7 rfl).trans (congrArg some ke)
   have x17 : aa.tmps[17]? = some (.agg (cT (acrT w_))) := ((hin 2 17 rfl).trans (congrArg some (show uu 2 = .agg (cT (acrT w_)) from (hd 2 (by decide) (by kernel_rfl)).2)))
   clear hd hev hin
   simp only [zzA, zzB]
   clear hl
   refine .inr ⟨rfl, fun K' hK => ?_⟩
   have HK := Lib.hid hK
   clear hK
   refine wp_store 27 (.tmp 7) (.tmp 17) rfl 0 kb 0 kC 27 27 (cT (acrT w_)).toList (hJ.em.join kge kcl) rfl (eval_tmp x7) (by rw [eval_tmp x17]; rfl) sz27 (by kernel_rfl) (by rw [ksz]; decide) (by kernel_rfl) (fun ww2 hE hk hz => ?_)
   rw [putC_full (show kC.size = (cT (acrT w_)).toList.length from ksz), Array.toArray_toList] at hE
   exact HK.out undef _ (hJ.store (a := 6) (n := 27) (T := 27) (Cn := (cT (acrT w_))) hLi (by simp) (by simp) (by simp) (by simp) (by simp) (by simp) hLa ke kge rfl hE hk hz) trivial (veL_flat rfl)
  ·
   have hLa := (hd 7 (by decide) (by kernel_rfl)).1
   obtain ⟨kb, kC, ke, kge, ksz, kcl⟩ := hJ.bx (7, 27, 27) (by simp) hLa
   have x8 : aa.tmps[8]? = some (.pointer (some ⟨kb, 0, none⟩)) := (hin 7 8 rfl).trans (congrArg some ke)
   have x19 : aa.tmps[19]? = some (.agg (cT (twiT w_))) := ((hin 4 19 rfl).trans (congrArg some (show uu 4 = .agg (cT (twiT w_)) from (hd 4 (by decide) (by kernel_rfl)).2)))
   clear hd hev hin
   simp only [zzA, zzB]
   clear hl
   refine .inr ⟨rfl, fun K' hK => ?_⟩
   have HK := Lib.hid hK
   clear hK
   refine wp_store 27 (.tmp 8) (.tmp 19) rfl 0 kb 0 kC 27 27 (cT (twiT w_)).toList (hJ.em.join kge kcl) rfl (eval_tmp x8) (by rw [eval_tmp x19]; rfl) sz27 (by kernel_rfl) (by rw [ksz]; decide) (by kernel_rfl) (fun ww2 hE hk hz => ?_)
   rw [putC_full (show kC.size = (cT (twiT w_)).toList.length from ksz), Array.toArray_toList] at hE
   exact HK.out undef _ (hJ.store (a := 7) (n := 27) (T := 27) (Cn := (cT (twiT w_))) hLi (by simp) (by simp) (by simp) (by simp) (by simp) (by simp) hLa ke kge rfl hE hk hz) trivial (veL_flat rfl)
 clear hM
 intro LL uu W7 hLL hJm hd
 have e_0 : uu 0 = .agg (cT idT) := hd 0 (by decide)
 have e_1 : uu 1 = .agg (cV w_) := hd 1 (by decide)
 have e_2 : uu 2 = .agg (cT (acrT w_)) := hd 2 (by decide)
 have e_3 : uu 3 = .agg (cV w_) := hd 3 (by decide)
 have e_4 : uu 4 = .agg (cT (twiT w_)) := hd 4 (by decide)
 obtain ⟨bk6, kC5, e_5, nge5, ksz5, nB5⟩ := hJm.bx (5, 27, 27) (by simp) (hLL 5 (by decide))
 obtain ⟨bk7, kC6, e_6, nge6, ksz6, nB6⟩ := hJm.bx (6, 27, 27) (by simp) (hLL 6 (by decide))
 obtain ⟨bk8, kC7, e_7, nge7, ksz7, nB7⟩ := hJm.bx (7, 27, 27) (by simp) (hLL 7 (by decide))
 obtain ⟨_, kb8, ke8, kl8⟩ := hJm.st (8, 5, (cT idT), 27) (by simp) (hLL 8 (by decide))
 have kq8 : kb8 = bk6 := by
  have hq := ke8.symm.trans e_5
  injection hq with hq
  injection hq with hq
  injection hq with hq
 subst kq8
 clear ke8
 obtain ⟨_, kb9, ke9, kl9⟩ := hJm.st (9, 6, (cT (acrT w_)), 27) (by simp) (hLL 9 (by decide))
 have kq9 : kb9 = bk7 := by
  have hq := ke9.symm.trans e_6
  injection hq with hq
  injection hq with hq
  injection hq with hq
 subst kq9
 clear ke9
 obtain ⟨_, kb10, ke10, kl10⟩ := hJm.st (10, 7, (cT (twiT w_)), 27) (by simp) (hLL 10 (by decide))
 have kq10 : kb10 = bk8 := by
  have hq := ke10.symm.trans e_7
  injection hq with hq
  injection hq with hq
  injection hq with hq
 subst kq10
 clear ke10
 have g5 := hJm.em.join nge5 kl8
 have g6 : Es w W7 _ := Es.join g5 (Nat.le_trans hJm.em.ge nge6) (by
  intro p hp
  rcases List.mem_cons.1 hp with rfl | hp
  ·
   intro hc
   refine hJm.ne (5, 27, 27) (6, 27, 27) (by simp) (by simp) (by decide) (hLL 5 (by decide)) (hLL 6 (by decide)) ?_
   rw [e_5, e_6]
   exact congrArg (fun k => Value.pointer (some ⟨k, 0, none⟩)) hc
  have h1 := hJm.em.lt p hp
  have h2 := nge6
  omega) kl9
 have g7 : Es w W7 _ := Es.join g6 (Nat.le_trans hJm.em.ge nge7) (by
  intro p hp
  rcases List.mem_cons.1 hp with rfl | hp
  ·
   intro hc
   refine hJm.ne (6, 27, 27) (7, 27, 27) (by simp) (by simp) (by decide) (hLL 6 (by decide)) (hLL 7 (by decide)) ?_
   rw [e_6, e_7]
   exact congrArg (fun k => Value.pointer (some ⟨k, 0, none⟩)) hc
  rcases List.mem_cons.1 hp with rfl | hp
  ·
   intro hc
   refine hJm.ne (5, 27, 27) (7, 27, 27) (by simp) (by simp) (by decide) (hLL 5 (by decide)) (hLL 7 (by decide)) ?_
   rw [e_5, e_7]
   exact congrArg (fun k => Value.pointer (some ⟨k, 0, none⟩)) hc
  have h1 := hJm.em.lt p hp
  have h2 := nge7
  omega) kl10
 clear hd hLL
 simp only [layS, Act.put, zzC, zzD, zzE, Nat.zero_add, Nat.reduceAdd, List.drop_succ_cons, List.drop_zero, List.drop_nil, e_0, e_1, e_2, e_3, e_4, e_5, e_6, e_7]
 have hJ7 := g7
 clear hJm e_0 e_1 e_2 e_3 e_4 e_5 e_6 e_7 nge5 nB5 ksz5 g5 nge6 nB6 ksz6 g6 nge7 nB7 ksz7 g7
 go_wp2_with fail
 refine (mkT_any 40 #[.pointer (some ⟨kb8, 0, none⟩), .pointer (some ⟨kb6, 0, none⟩), .pointer (some ⟨kb9, 0, none⟩), .pointer (some ⟨kb7, 0, none⟩), .pointer (some ⟨kb10, 0, none⟩)] (fun i j => #[.int .i64 i, .int .i64 j, .pointer (some ⟨kb8, 0, none⟩), .pointer (some ⟨kb6, 0, none⟩), .pointer (some ⟨kb9, 0, none⟩), .pointer (some ⟨kb7, 0, none⟩), .pointer (some ⟨kb10, 0, none⟩)]) (expT w_) (fun _ _ => by simp) (fun _ _ => by kernel_rfl) W7 (fun i j hi hj W' hB => by unfold expT; rw [at_plc _ _ _ _ _ hi hj]; exact tExp1 kb8 kb6 kb9 kb7 kb10 idT (acrT w_) (twiT w_) (encS 1 (normV w_)) (encS 2 (normV w_)) hi hj W' ((hJ7.at' _ (zzG (i := 2) rfl)).below hB) ((hJ7.at' _ (zzG (i := 4) rfl)).below hB) ((hJ7.at' _ (zzG (i := 1) rfl)).below hB) ((hJ7.at' _ (zzG (i := 3) rfl)).below hB) ((hJ7.at' _ (zzG (i := 0) rfl)).below hB))).mono ?_
 rintro zz W8 ⟨rfl, hB⟩
 have hJ8 := hJ7.later hB
 clear hB
 clear hJ7
 go_wp2_with (refine stop_store 27 (.tmp 2) (.tmp 21) 6 bk2 0 (cT zT) 27 27 (cT (expT w_)).toList (cT (expT w_)) [(kb10, (cT (twiT w_)), 27), (kb9, (cT (acrT w_)), 27), (kb8, (cT idT), 27), (kb7, (cS (encS 2 (normV w_))), 23), (kb6, (cS (encS 1 (normV w_))), 23), (bk3, (cS (normV w_)), 23), (bk2, (cT (expT w_)), 27), (bk1, (cV w_), 25)] rfl rfl rfl rfl sz27 hJ8 rfl (by kernel_rfl) (zzF (by kernel_rfl)) (by kernel_rfl) (by kernel_rfl) (by kernel_rfl) (fun W9 hJ9 => ?_))
 clear hJ8
 unfold Stop
 try simp only [Act.put, zzC, zzD, zzE]
 go_wp2
 exact bodyPost_ret (v := .agg (cT (expT w_))) (results_cell 6 Tryz.results20 hJ9 rfl ag27 sz27 (zzF (by kernel_rfl)) rfl (by kernel_rfl)) rfl ⟨rfl, hJ9.below⟩
end Go.Proofs.YtolpfibihialkaaGreat
