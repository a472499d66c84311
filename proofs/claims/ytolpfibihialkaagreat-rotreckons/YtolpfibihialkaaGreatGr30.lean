/- Parts of the proof. -/
import Derived.Test.YtolpfibihialkaaGreatGr0
import Derived.Test.YtolpfibihialkaaGreatGr29
import Derived.LoopN
/- The document's spans: the walks of Sub, quotient. No statement of the seat is proved here. -/
namespace Go.Proofs.YtolpfibihialkaaGreat
open Go Go.RowKit
set_option maxHeartbeats 1600000 in
theorem rdSub_any (x y : Sp) (w : World) : Calls Tryz.prog 56 #[.agg #[.int .i64 x.lo, .int .i64 x.hi, .bool x.all], .agg #[.int .i64 y.lo, .int .i64 y.hi, .bool y.all]] w (PDp (subS x y) w) := by
 have H1 := Lib.hid (rdNeg_any y)
 have H2 : Hid (∀ W : World, Calls Tryz.prog 55 #[.agg #[.int .i64 x.lo, .int .i64 x.hi, .bool x.all], .agg #[.int .i64 (negS y).lo, .int .i64 (negS y).hi, .bool (negS y).all]] W (PDp (subS x y) W)) := show ∀ W : World, _ from rdAdd_any x (negS y)
 generalize subS x y = z at *
 generalize negS y = v at *
 go_enter Tryz.func56, Tryz.ntmps56
 go_wp2
 have hC := (((cs_nil w).new #[.int .i64 x.lo, .int .i64 x.hi, .bool x.all] 29).new #[.int .i64 y.lo, .int .i64 y.hi, .bool y.all] 29).new #[.int .i64 0, .int .i64 0, .bool false] 29
 rw [show ((w.alloc (.cells #[.int .i64 x.lo, .int .i64 x.hi, .bool x.all] 29)).alloc (.cells #[.int .i64 y.lo, .int .i64 y.hi, .bool y.all] 29)).heap.size = w.heap.size + 2 by simp, show (w.alloc (.cells #[.int .i64 x.lo, .int .i64 x.hi, .bool x.all] 29)).heap.size = w.heap.size + 1 by simp] at hC
 generalize ((w.alloc (.cells #[.int .i64 x.lo, .int .i64 x.hi, .bool x.all] 29)).alloc (.cells #[.int .i64 y.lo, .int .i64 y.hi, .bool y.all] 29)).alloc (.cells #[.int .i64 0, .int .i64 0, .bool false] 29) = w1 at *
 obtain ⟨m1, hm1⟩ : ∃ m, m = w1.heap.size := ⟨_, rfl⟩
 have hJ0 : ∀ u, Jy w m1 [(w.heap.size + 2, #[.int .i64 0, .int .i64 0, .bool false], 29), (w.heap.size + 1, #[.int .i64 y.lo, .int .i64 y.hi, .bool y.all], 29), (w.heap.size, #[.int .i64 x.lo, .int .i64 x.hi, .bool x.all], 29)] [] 82 [] [] (fun _ => false) u w1.drew := fun u => by rw [hm1]; exact Jy.start (hC) u
 refine wp_region_y 4 [some 5, some 6, some 7, some 8] (vyL [.eq (.agg #[.int .i64 x.lo, .int .i64 x.hi, .bool x.all]), .eq (.agg #[.int .i64 y.lo, .int .i64 y.hi, .bool y.all]), .eq (.agg #[.int .i64 v.lo, .int .i64 v.hi, .bool v.all]), .eq (.agg #[.int .i64 z.lo, .int .i64 z.hi, .bool z.all])]) (Jy w m1 [(w.heap.size + 2, #[.int .i64 0, .int .i64 0, .bool false], 29), (w.heap.size + 1, #[.int .i64 y.lo, .int .i64 y.hi, .bool y.all], 29), (w.heap.size, #[.int .i64 x.lo, .int .i64 x.hi, .bool x.all], 29)] [] 82 [] []) (by kernel_rfl) (by kernel_rfl) (by rfl) (by decide) (by rfl) hJ0 ?_ ?_
 ·
  intro i hl hi L u W A hLi hJ hd hev hin
  obtain rfl | rfl | rfl | rfl : i = 0 ∨ i = 1 ∨ i = 2 ∨ i = 3 := by omega
  ·
   have x2 : A.tmps[2]? = some (.pointer (some ⟨w.heap.size, 0, none⟩)) := (hev 2 (by decide)).trans rfl
   clear hd hev hin
   simp only [zzA, zzB]
   clear hl
   refine .inr ⟨rfl, fun K' hK => ?_⟩
   have HK := Lib.hid hK
   clear hK
   have f0 := cl3 (hJ.cm.cs.at' (w.heap.size, #[.int .i64 x.lo, .int .i64 x.hi, .bool x.all], 29) (.tail _ (.tail _ (.head _))))
   have f5 := f0.1
   have f6 := f0.2.1
   have f7 := f0.2.2.1
   clear f0
   go_simp
   exact HK.out (.agg #[.int .i64 x.lo, .int .i64 x.hi, .bool x.all]) _ (hJ.grow hLi (by decide) (by decide) (Below.refl _ _)) (rfl) vyL_same
  ·
   have x3 : A.tmps[3]? = some (.pointer (some ⟨w.heap.size + 1, 0, none⟩)) := (hev 3 (by decide)).trans rfl
   clear hd hev hin
   simp only [zzA, zzB]
   clear hl
   refine .inr ⟨rfl, fun K' hK => ?_⟩
   have HK := Lib.hid hK
   clear hK
   have f0 := cl3 (hJ.cm.cs.at' (w.heap.size + 1, #[.int .i64 y.lo, .int .i64 y.hi, .bool y.all], 29) (.tail _ (.head _)))
   have f5 := f0.1
   have f6 := f0.2.1
   have f7 := f0.2.2.1
   clear f0
   go_simp
   exact HK.out (.agg #[.int .i64 y.lo, .int .i64 y.hi, .bool y.all]) _ (hJ.grow hLi (by decide) (by decide) (Below.refl _ _)) (rfl) vyL_same
  ·
   have e1 : u 1 = .agg #[.int .i64 y.lo, .int .i64 y.hi, .bool y.all] := (hd 1 (by decide) (by kernel_rfl)).2
   have x6 : A.tmps[6]? = some (.agg #[.int .i64 y.lo, .int .i64 y.hi, .bool y.all]) := (hin 1 6 rfl).trans (congrArg some e1)
   clear hd hev hin
   simp only [zzA, zzB]
   clear hl
   refine .inr ⟨rfl, fun K' hK => ?_⟩
   have HK := Lib.hid hK
   clear hK
   go_simp
   refine (H1.out W).mono ?_
   rintro e W' ⟨rfl, hB⟩
   exact HK.out (.agg #[.int .i64 v.lo, .int .i64 v.hi, .bool v.all]) _ (hJ.grow hLi (by decide) (by decide) hB) (rfl) (vyL_later hB)
  ·
   have e0 : u 0 = .agg #[.int .i64 x.lo, .int .i64 x.hi, .bool x.all] := (hd 0 (by decide) (by kernel_rfl)).2
   have x5 : A.tmps[5]? = some (.agg #[.int .i64 x.lo, .int .i64 x.hi, .bool x.all]) := (hin 0 5 rfl).trans (congrArg some e0)
   have e2 : u 2 = .agg #[.int .i64 v.lo, .int .i64 v.hi, .bool v.all] := (hd 2 (by decide) (by kernel_rfl)).2
   have x7 : A.tmps[7]? = some (.agg #[.int .i64 v.lo, .int .i64 v.hi, .bool v.all]) := (hin 2 7 rfl).trans (congrArg some e2)
   clear hd hev hin
   simp only [zzA, zzB]
   clear hl
   refine .inr ⟨rfl, fun K' hK => ?_⟩
   have HK := Lib.hid hK
   clear hK
   go_simp
   refine (H2.out W).mono ?_
   rintro e W' ⟨rfl, hB⟩
   exact HK.out (.agg #[.int .i64 z.lo, .int .i64 z.hi, .bool z.all]) _ (hJ.grow hLi (by decide) (by decide) hB) (rfl) (vyL_later hB)
 intro L u W hL hJ hd
 have e0 : u 0 = .agg #[.int .i64 x.lo, .int .i64 x.hi, .bool x.all] := hd 0 (by decide)
 have e1 : u 1 = .agg #[.int .i64 y.lo, .int .i64 y.hi, .bool y.all] := hd 1 (by decide)
 have e2 : u 2 = .agg #[.int .i64 v.lo, .int .i64 v.hi, .bool v.all] := hd 2 (by decide)
 have e3 : u 3 = .agg #[.int .i64 z.lo, .int .i64 z.hi, .bool z.all] := hd 3 (by decide)
 simp only [layS, Act.put, zzC, zzD, zzE, Nat.zero_add, Nat.reduceAdd, List.drop_succ_cons, List.drop_zero, List.drop_nil, e0, e1, e2, e3]
 have hC2 := hJ.cm.cs
 have k := cl3 (hC2.at' (w.heap.size + 2, #[.int .i64 0, .int .i64 0, .bool false], 29) (.head _))
 have c1 := k.1
 have c2 := k.2.1
 have c3 := k.2.2.1
 have c4 := k.2.2.2.1
 have c5 := k.2.2.2.2.1
 have c6 := k.2.2.2.2.2
 have hf := fin3 hC2.below 2 z
 clear k hC2 hJ hL hJ0 hd e0 e1 e2 e3 hC
 go_wp2
 exact bodyPost_ret (v := .agg #[.int .i64 z.lo, .int .i64 z.hi, .bool z.all]) (by simp [results, Tryz.results56, go_sem, c1, c2, c3]) rfl ⟨rfl, hf⟩
end Go.Proofs.YtolpfibihialkaaGreat

/- Package vec: the walks of both, each, sum, from. No statement of the seat is proved here. -/
namespace Go.Proofs.YtolpfibihialkaaGreat
open Go Go.RowKit
attribute [local go_sem] run_vix0 run_vix1 run_vix2
attribute [local go_sem ↓] run_vbuild run_dbuild
set_option maxRecDepth 100000 in
set_option maxHeartbeats 12800000 in
theorem both_s (k : FuncId) (v u r : Vc) (hH0 : ∀ W : World, Calls Tryz.prog k #[.agg (cS v.x), .agg (cS u.x)] W (PVal (.agg (cS r.x)) W)) (hH1 : ∀ W : World, Calls Tryz.prog k #[.agg (cS v.y), .agg (cS u.y)] W (PVal (.agg (cS r.y)) W)) (hH2 : ∀ W : World, Calls Tryz.prog k #[.agg (cS v.z), .agg (cS u.z)] W (PVal (.agg (cS r.z)) W)) (hk : ∀ (args : Array Value) (W : World), (callFunc k args).run Tryz.prog W = .ok (.enter k args) W) (w : World)   : Calls Tryz.prog 47 #[.agg (cV v), .agg (cV u), .func (.func k) #[] #[]] w (PVal (.agg (cV r)) w) := by
 have H0 := Lib.hid hH0
 have H1 := Lib.hid hH1
 have H2 := Lib.hid hH2
 clear hH0 hH1 hH2
 have hJ0 := es_nil w
 go_enter Tryz.func47, Tryz.ntmps47
 go_wp2_with (refine stop_box 25 (.tmp 0) (cV v) rfl rfl rfl hJ0 (fun bk1 W1 hJ1 => ?_))
 clear hJ0
 unfold Stop
 try simp only [Act.put, zzC, zzD, zzE]
 go_wp2_with (refine stop_box 25 (.tmp 1) (cV u) rfl rfl rfl hJ1 (fun bk2 W2 hJ2 => ?_))
 clear hJ1
 unfold Stop
 try simp only [Act.put, zzC, zzD, zzE]
 go_wp2_with (refine stop_alloc 24 (cV zV) (.agg (cV zV)) rfl rfl zv24 rfl hJ2 (fun bk3 W3 hJ3 => ?_))
 clear hJ2
 unfold Stop
 try simp only [Act.put, zzC, zzD, zzE]
 go_wp2_with (refine stop_alloc 24 (cV zV) (.agg (cV zV)) rfl rfl zv24 rfl hJ3 (fun bk4 W4 hJ4 => ?_))
 clear hJ3
 unfold Stop
 try simp only [Act.put, zzC, zzD, zzE]
 go_wp2_with (refine stop_op rfl (fun K hK => wp_load 25 (.tmp 3) rfl bk1 0 9 (cV v) (cV v) 25 (hJ4.at' _ (zzG (i := 3) rfl)) rfl ag25 sz25 (zzF (by kernel_rfl)) (by kernel_rfl) (hK _ _ ?_)))
 unfold Stop
 try simp only [Act.put, zzC, zzD, zzE]
 go_wp2
 refine wp_loop_rounds 4 ?_
 rw [rounds_succ]
 go_wp2_with (refine stop_op rfl (fun K hK => wp_idx (v := .agg (cS v.x)) 25 (.tmp 10) (.tmp 11) rfl rfl rfl (fun _ => by kernel_rfl) (hK _ _ ?_)))
 unfold Stop
 try simp only [Act.put, zzC, zzD, zzE]
 go_wp2_with (refine stop_alloc 23 (cS zS) (.agg (cS zS)) rfl rfl zv23 rfl hJ4 (fun bk5 W5 hJ5 => ?_))
 clear hJ4
 unfold Stop
 try simp only [Act.put, zzC, zzD, zzE]
 go_wp2_with (refine stop_store 23 (.tmp 9) (.tmp 14) 0 bk5 0 (cS zS) 23 3 (cS v.x).toList (cS v.x) [(bk5, (cS v.x), 23), (bk4, (cV zV), 24), (bk3, (cV zV), 24), (bk2, (cV u), 25), (bk1, (cV v), 25)] rfl rfl rfl rfl sz23 hJ5 rfl (by kernel_rfl) (zzF (by kernel_rfl)) (by kernel_rfl) (by kernel_rfl) (by kernel_rfl) (fun W6 hJ6 => ?_))
 clear hJ5
 unfold Stop
 try simp only [Act.put, zzC, zzD, zzE]
 go_wp2
 obtain ⟨m5_6, hm⟩ : ∃ m, m = W6.heap.size := ⟨_, rfl⟩
 have hM := hJ6.em
 rw [← hm] at hM
 clear hm hJ6
 refine wp_region_z 8 [some 15, some 16, some 17, some 18, some 19, some 20, some 21, some 22] (veL m5_6 [.eq (.int .i64 0), .eq (.func (.func k) #[] #[]), .eq (.agg (cS v.x)), .eq (.int .i64 0), .eq (.pointer (some ⟨bk2, 0, none⟩)), .eq (.agg (cS u.x)), .eq (.agg (cS r.x)), .eq (.pointer (some ⟨bk4, 0, none⟩))]) (Em w m5_6 [(bk5, (cS v.x), 23), (bk4, (cV zV), 24), (bk3, (cV zV), 24), (bk2, (cV u), 25), (bk1, (cV v), 25)]) (by kernel_rfl) (by kernel_rfl) (by rfl) (by decide) (by rfl) hM ?_ ?_
 ·
  intro i hl hi uu ww aa hJ hd hev hin
  clear hM
  obtain rfl | rfl | rfl | rfl | rfl | rfl | rfl | rfl : i = 0 ∨ i = 1 ∨ i = 2 ∨ i = 3 ∨ i = 4 ∨ i = 5 ∨ i = 6 ∨ i = 7 := by omega
  ·
   exact .inr ⟨rfl, fun K' hK => wp_move (.tmp 8) rfl (eval_tmp ((hev 8 (by decide)).trans rfl)) (hK _ _ hJ rfl veL_same)⟩
  ·
   exact .inr ⟨rfl, fun K' hK => wp_move (.tmp 2) rfl (eval_tmp ((hev 2 (by decide)).trans rfl)) (hK _ _ hJ rfl veL_same)⟩
  ·
   exact .inr ⟨rfl, fun K' hK => wp_load 23 (.tmp 9) rfl bk5 0 3 (cS v.x) (cS v.x) 23 (hJ.es.at' _ (zzG (i := 0) rfl)) (eval_tmp ((hev 9 (by decide)).trans rfl)) ag23 sz23 (zzF (by kernel_rfl)) (by kernel_rfl) (hK _ _ hJ rfl veL_same)⟩
  ·
   exact .inr ⟨rfl, fun K' hK => wp_move (.tmp 8) rfl (eval_tmp ((hev 8 (by decide)).trans rfl)) (hK _ _ hJ rfl veL_same)⟩
  ·
   exact .inr ⟨rfl, fun K' hK => wp_ixa 25 (.tmp 4) (.tmp 18) rfl (eval_tmp ((hev 4 (by decide)).trans rfl)) (eval_tmp ((hin 3 18 rfl).trans (congrArg some (show uu 3 = .int .i64 0 from hd 3 (by decide) (by kernel_rfl))))) (fun _ => by kernel_rfl) (hK _ _ hJ rfl veL_same)⟩
  ·
   exact .inr ⟨rfl, fun K' hK => wp_load 23 (.tmp 19) rfl bk2 0 3 (cV u) (cS u.x) 25 (hJ.es.at' _ (zzG (i := 3) rfl)) (eval_tmp ((hin 4 19 rfl).trans (congrArg some (show uu 4 = .pointer (some ⟨bk2, 0, none⟩) from hd 4 (by decide) (by kernel_rfl))))) ag23 sz23 (zzF (by kernel_rfl)) (by kernel_rfl) (hK _ _ hJ rfl veL_same)⟩
  ·
   exact .inr ⟨rfl, fun K' hK => wp_callv (.tmp 16) #[.tmp 17, .tmp 20] _ k #[] #[.agg (cS v.x), .agg (cS u.x)] #[.agg (cS v.x), .agg (cS u.x)] rfl (eval_tmp ((hin 1 16 rfl).trans (congrArg some (show uu 1 = .func (.func k) #[] #[] from hd 1 (by decide) (by kernel_rfl))))) (map2 (eval_tmp ((hin 2 17 rfl).trans (congrArg some (show uu 2 = .agg (cS v.x) from hd 2 (by decide) (by kernel_rfl))))) (eval_tmp ((hin 5 20 rfl).trans (congrArg some (show uu 5 = .agg (cS u.x) from hd 5 (by decide) (by kernel_rfl)))))) (by kernel_rfl) hk (H0.out ww) (fun _ hB => (hK _ _ (hJ.later hB) rfl (veL_later hB)))⟩
  ·
   exact .inr ⟨rfl, fun K' hK => wp_ixa 24 (.tmp 7) (.tmp 15) rfl (eval_tmp ((hev 7 (by decide)).trans rfl)) (eval_tmp ((hin 0 15 rfl).trans (congrArg some (show uu 0 = .int .i64 0 from hd 0 (by decide) (by kernel_rfl))))) (fun _ => by kernel_rfl) (hK _ _ hJ rfl veL_same)⟩
 clear hM
 intro uu W7 hJm hd
 have e_0 : uu 0 = .int .i64 0 := hd 0 (by decide)
 have e_1 : uu 1 = .func (.func k) #[] #[] := hd 1 (by decide)
 have e_2 : uu 2 = .agg (cS v.x) := hd 2 (by decide)
 have e_3 : uu 3 = .int .i64 0 := hd 3 (by decide)
 have e_4 : uu 4 = .pointer (some ⟨bk2, 0, none⟩) := hd 4 (by decide)
 have e_5 : uu 5 = .agg (cS u.x) := hd 5 (by decide)
 have e_6 : uu 6 = .agg (cS r.x) := hd 6 (by decide)
 have e_7 : uu 7 = .pointer (some ⟨bk4, 0, none⟩) := hd 7 (by decide)
 clear hd
 simp only [layS, Act.put, zzC, zzD, zzE, Nat.zero_add, Nat.reduceAdd, List.drop_succ_cons, List.drop_zero, List.drop_nil, e_0, e_1, e_2, e_3, e_4, e_5, e_6, e_7]
 clear e_0 e_1 e_2 e_3 e_4 e_5 e_6 e_7
 have hJ7 := hJm.es
 clear hJm
 go_wp2_with (refine stop_store 23 (.tmp 22) (.tmp 21) 1 bk4 0 (cV zV) 24 3 (cS r.x).toList (cV ⟨r.x, zS, zS⟩) [(bk5, (cS v.x), 23), (bk4, (cV ⟨r.x, zS, zS⟩), 24), (bk3, (cV zV), 24), (bk2, (cV u), 25), (bk1, (cV v), 25)] rfl rfl rfl rfl sz23 hJ7 rfl (by kernel_rfl) (zzF (by kernel_rfl)) (by kernel_rfl) (by kernel_rfl) (by kernel_rfl) (fun W8 hJ8 => ?_))
 clear hJ7
 unfold Stop
 try simp only [Act.put, zzC, zzD, zzE]
 go_wp2
 rw [rounds_succ]
 go_wp2_with (refine stop_op rfl (fun K hK => wp_idx (v := .agg (cS v.y)) 25 (.tmp 10) (.tmp 11) rfl rfl rfl (fun _ => by kernel_rfl) (hK _ _ ?_)))
 unfold Stop
 try simp only [Act.put, zzC, zzD, zzE]
 go_wp2_with (refine stop_alloc 23 (cS zS) (.agg (cS zS)) rfl rfl zv23 rfl hJ8 (fun bk6 W9 hJ9 => ?_))
 clear hJ8
 unfold Stop
 try simp only [Act.put, zzC, zzD, zzE]
 go_wp2_with (refine stop_store 23 (.tmp 9) (.tmp 14) 0 bk6 0 (cS zS) 23 3 (cS v.y).toList (cS v.y) [(bk6, (cS v.y), 23), (bk5, (cS v.x), 23), (bk4, (cV ⟨r.x, zS, zS⟩), 24), (bk3, (cV zV), 24), (bk2, (cV u), 25), (bk1, (cV v), 25)] rfl rfl rfl rfl sz23 hJ9 rfl (by kernel_rfl) (zzF (by kernel_rfl)) (by kernel_rfl) (by kernel_rfl) (by kernel_rfl) (fun W10 hJ10 => ?_))
 clear hJ9
 unfold Stop
 try simp only [Act.put, zzC, zzD, zzE]
 go_wp2
 obtain ⟨m5_10, hm⟩ : ∃ m, m = W10.heap.size := ⟨_, rfl⟩
 have hM := hJ10.em
 rw [← hm] at hM
 clear hm hJ10
 refine wp_region_z 8 [some 15, some 16, some 17, some 18, some 19, some 20, some 21, some 22] (veL m5_10 [.eq (.int .i64 1), .eq (.func (.func k) #[] #[]), .eq (.agg (cS v.y)), .eq (.int .i64 1), .eq (.pointer (some ⟨bk2, 3, none⟩)), .eq (.agg (cS u.y)), .eq (.agg (cS r.y)), .eq (.pointer (some ⟨bk4, 3, none⟩))]) (Em w m5_10 [(bk6, (cS v.y), 23), (bk5, (cS v.x), 23), (bk4, (cV ⟨r.x, zS, zS⟩), 24), (bk3, (cV zV), 24), (bk2, (cV u), 25), (bk1, (cV v), 25)]) (by kernel_rfl) (by kernel_rfl) (by rfl) (by decide) (by rfl) hM ?_ ?_
 ·
  intro i hl hi uu ww aa hJ hd hev hin
  clear hM
  obtain rfl | rfl | rfl | rfl | rfl | rfl | rfl | rfl : i = 0 ∨ i = 1 ∨ i = 2 ∨ i = 3 ∨ i = 4 ∨ i = 5 ∨ i = 6 ∨ i = 7 := by omega
  ·
   exact .inr ⟨rfl, fun K' hK => wp_move (.tmp 8) rfl (eval_tmp ((hev 8 (by decide)).trans rfl)) (hK _ _ hJ rfl veL_same)⟩
  ·
   exact .inr ⟨rfl, fun K' hK => wp_move (.tmp 2) rfl (eval_tmp ((hev 2 (by decide)).trans rfl)) (hK _ _ hJ rfl veL_same)⟩
  ·
   exact .inr ⟨rfl, fun K' hK => wp_load 23 (.tmp 9) rfl bk6 0 3 (cS v.y) (cS v.y) 23 (hJ.es.at' _ (zzG (i := 0) rfl)) (eval_tmp ((hev 9 (by decide)).trans rfl)) ag23 sz23 (zzF (by kernel_rfl)) (by kernel_rfl) (hK _ _ hJ rfl veL_same)⟩
  ·
   exact .inr ⟨rfl, fun K' hK => wp_move (.tmp 8) rfl (eval_tmp ((hev 8 (by decide)).trans rfl)) (hK _ _ hJ rfl veL_same)⟩
  ·
   exact .inr ⟨rfl, fun K' hK => wp_ixa 25 (.tmp 4) (.tmp 18) rfl (eval_tmp ((hev 4 (by decide)).trans rfl)) (eval_tmp ((hin 3 18 rfl).trans (congrArg some (show uu 3 = .int .i64 1 from hd 3 (by decide) (by kernel_rfl))))) (fun _ => by kernel_rfl) (hK _ _ hJ rfl veL_same)⟩
  ·
   exact .inr ⟨rfl, fun K' hK => wp_load 23 (.tmp 19) rfl bk2 3 3 (cV u) (cS u.y) 25 (hJ.es.at' _ (zzG (i := 4) rfl)) (eval_tmp ((hin 4 19 rfl).trans (congrArg some (show uu 4 = .pointer (some ⟨bk2, 3, none⟩) from hd 4 (by decide) (by kernel_rfl))))) ag23 sz23 (zzF (by kernel_rfl)) (by kernel_rfl) (hK _ _ hJ rfl veL_same)⟩
  ·
   exact .inr ⟨rfl, fun K' hK => wp_callv (.tmp 16) #[.tmp 17, .tmp 20] _ k #[] #[.agg (cS v.y), .agg (cS u.y)] #[.agg (cS v.y), .agg (cS u.y)] rfl (eval_tmp ((hin 1 16 rfl).trans (congrArg some (show uu 1 = .func (.func k) #[] #[] from hd 1 (by decide) (by kernel_rfl))))) (map2 (eval_tmp ((hin 2 17 rfl).trans (congrArg some (show uu 2 = .agg (cS v.y) from hd 2 (by decide) (by kernel_rfl))))) (eval_tmp ((hin 5 20 rfl).trans (congrArg some (show uu 5 = .agg (cS u.y) from hd 5 (by decide) (by kernel_rfl)))))) (by kernel_rfl) hk (H1.out ww) (fun _ hB => (hK _ _ (hJ.later hB) rfl (veL_later hB)))⟩
  ·
   exact .inr ⟨rfl, fun K' hK => wp_ixa 24 (.tmp 7) (.tmp 15) rfl (eval_tmp ((hev 7 (by decide)).trans rfl)) (eval_tmp ((hin 0 15 rfl).trans (congrArg some (show uu 0 = .int .i64 1 from hd 0 (by decide) (by kernel_rfl))))) (fun _ => by kernel_rfl) (hK _ _ hJ rfl veL_same)⟩
 clear hM
 intro uu W11 hJm hd
 have e_0 : uu 0 = .int .i64 1 := hd 0 (by decide)
 have e_1 : uu 1 = .func (.func k) #[] #[] := hd 1 (by decide)
 have e_2 : uu 2 = .agg (cS v.y) := hd 2 (by decide)
 have e_3 : uu 3 = .int .i64 1 := hd 3 (by decide)
 have e_4 : uu 4 = .pointer (some ⟨bk2, 3, none⟩) := hd 4 (by decide)
 have e_5 : uu 5 = .agg (cS u.y) := hd 5 (by decide)
 have e_6 : uu 6 = .agg (cS r.y) := hd 6 (by decide)
 have e_7 : uu 7 = .pointer (some ⟨bk4, 3, none⟩) := hd 7 (by decide)
 clear hd
 simp only [layS, Act.put, zzC, zzD, zzE, Nat.zero_add, Nat.reduceAdd, List.drop_succ_cons, List.drop_zero, List.drop_nil, e_0, e_1, e_2, e_3, e_4, e_5, e_6, e_7]
 clear e_0 e_1 e_2 e_3 e_4 e_5 e_6 e_7
 have hJ11 := hJm.es
 clear hJm
 go_wp2_with (refine stop_store 23 (.tmp 22) (.tmp 21) 2 bk4 3 (cV ⟨r.x, zS, zS⟩) 24 3 (cS r.y).toList (cV ⟨r.x, r.y, zS⟩) [(bk6, (cS v.y), 23), (bk5, (cS v.x), 23), (bk4, (cV ⟨r.x, r.y, zS⟩), 24), (bk3, (cV zV), 24), (bk2, (cV u), 25), (bk1, (cV v), 25)] rfl rfl rfl rfl sz23 hJ11 rfl (by kernel_rfl) (zzF (by kernel_rfl)) (by kernel_rfl) (by kernel_rfl) (by kernel_rfl) (fun W12 hJ12 => ?_))
 clear hJ11
 unfold Stop
 try simp only [Act.put, zzC, zzD, zzE]
 go_wp2
 rw [rounds_succ]
 go_wp2_with (refine stop_op rfl (fun K hK => wp_idx (v := .agg (cS v.z)) 25 (.tmp 10) (.tmp 11) rfl rfl rfl (fun _ => by kernel_rfl) (hK _ _ ?_)))
 unfold Stop
 try simp only [Act.put, zzC, zzD, zzE]
 go_wp2_with (refine stop_alloc 23 (cS zS) (.agg (cS zS)) rfl rfl zv23 rfl hJ12 (fun bk7 W13 hJ13 => ?_))
 clear hJ12
 unfold Stop
 try simp only [Act.put, zzC, zzD, zzE]
 go_wp2_with (refine stop_store 23 (.tmp 9) (.tmp 14) 0 bk7 0 (cS zS) 23 3 (cS v.z).toList (cS v.z) [(bk7, (cS v.z), 23), (bk6, (cS v.y), 23), (bk5, (cS v.x), 23), (bk4, (cV ⟨r.x, r.y, zS⟩), 24), (bk3, (cV zV), 24), (bk2, (cV u), 25), (bk1, (cV v), 25)] rfl rfl rfl rfl sz23 hJ13 rfl (by kernel_rfl) (zzF (by kernel_rfl)) (by kernel_rfl) (by kernel_rfl) (by kernel_rfl) (fun W14 hJ14 => ?_))
 clear hJ13
 unfold Stop
 try simp only [Act.put, zzC, zzD, zzE]
 go_wp2
 obtain ⟨m5_14, hm⟩ : ∃ m, m = W14.heap.size := ⟨_, rfl⟩
 have hM := hJ14.em
 rw [← hm] at hM
 clear hm hJ14
 refine wp_region_z 8 [some 15, some 16, some 17, some 18, some 19, some 20, some 21, some 22] (veL m5_14 [.eq (.int .i64 2), .eq (.func (.func k) #[] #[]), .eq (.agg (cS v.z)), .eq (.int .i64 2), .eq (.pointer (some ⟨bk2, 6, none⟩)), .eq (.agg (cS u.z)), .eq (.agg (cS r.z)), .eq (.pointer (some ⟨bk4, 6, none⟩))]) (Em w m5_14 [(bk7, (cS v.z), 23), (bk6, (cS v.y), 23), (bk5, (cS v.x), 23), (bk4, (cV ⟨r.x, r.y, zS⟩), 24), (bk3, (cV zV), 24), (bk2, (cV u), 25), (bk1, (cV v), 25)]) (by kernel_rfl) (by kernel_rfl) (by rfl) (by decide) (by rfl) hM ?_ ?_
 ·
  intro i hl hi uu ww aa hJ hd hev hin
  clear hM
  obtain rfl | rfl | rfl | rfl | rfl | rfl | rfl | rfl : i = 0 ∨ i = 1 ∨ i = 2 ∨ i = 3 ∨ i = 4 ∨ i = 5 ∨ i = 6 ∨ i = 7 := by omega
  ·
   exact .inr ⟨rfl, fun K' hK => wp_move (.tmp 8) rfl (eval_tmp ((hev 8 (by decide)).trans rfl)) (hK _ _ hJ rfl veL_same)⟩
  ·
   exact .inr ⟨rfl, fun K' hK => wp_move (.tmp 2) rfl (eval_tmp ((hev 2 (by decide)).trans rfl)) (hK _ _ hJ rfl veL_same)⟩
  ·
   exact .inr ⟨rfl, fun K' hK => wp_load 23 (.tmp 9) rfl bk7 0 3 (cS v.z) (cS v.z) 23 (hJ.es.at' _ (zzG (i := 0) rfl)) (eval_tmp ((hev 9 (by decide)).trans rfl)) ag23 sz23 (zzF (by kernel_rfl)) (by kernel_rfl) (hK _ _ hJ rfl veL_same)⟩
  ·
   exact .inr ⟨rfl, fun K' hK => wp_move (.tmp 8) rfl (eval_tmp ((hev 8 (by decide)).trans rfl)) (hK _ _ hJ rfl veL_same)⟩
  ·
   exact .inr ⟨rfl, fun K' hK => wp_ixa 25 (.tmp 4) (.tmp 18) rfl (eval_tmp ((hev 4 (by decide)).trans rfl)) (eval_tmp ((hin 3 18 rfl).trans (congrArg some (show uu 3 = .int .i64 2 from hd 3 (by decide) (by kernel_rfl))))) (fun _ => by kernel_rfl) (hK _ _ hJ rfl veL_same)⟩
  ·
   exact .inr ⟨rfl, fun K' hK => wp_load 23 (.tmp 19) rfl bk2 6 3 (cV u) (cS u.z) 25 (hJ.es.at' _ (zzG (i := 5) rfl)) (eval_tmp ((hin 4 19 rfl).trans (congrArg some (show uu 4 = .pointer (some ⟨bk2, 6, none⟩) from hd 4 (by decide) (by kernel_rfl))))) ag23 sz23 (zzF (by kernel_rfl)) (by kernel_rfl) (hK _ _ hJ rfl veL_same)⟩
  ·
   exact .inr ⟨rfl, fun K' hK => wp_callv (.tmp 16) #[.tmp 17, .tmp 20] _ k #[] #[.agg (cS v.z), .agg (cS u.z)] #[.agg (cS v.z), .agg (cS u.z)] rfl (eval_tmp ((hin 1 16 rfl).trans (congrArg some (show uu 1 = .func (.func k) #[] #[] from hd 1 (by decide) (by kernel_rfl))))) (map2 (eval_tmp ((hin 2 17 rfl).trans (congrArg some (show uu 2 = .agg (cS v.z) from hd 2 (by decide) (by kernel_rfl))))) (eval_tmp ((hin 5 20 rfl).trans (congrArg some (show uu 5 = .agg (cS u.z) from hd 5 (by decide) (by kernel_rfl)))))) (by kernel_rfl) hk (H2.out ww) (fun _ hB => (hK _ _ (hJ.later hB) rfl (veL_later hB)))⟩
  ·
   exact .inr ⟨rfl, fun K' hK => wp_ixa 24 (.tmp 7) (.tmp 15) rfl (eval_tmp ((hev 7 (by decide)).trans rfl)) (eval_tmp ((hin 0 15 rfl).trans (congrArg some (show uu 0 = .int .i64 2 from hd 0 (by decide) (by kernel_rfl))))) (fun _ => by kernel_rfl) (hK _ _ hJ rfl veL_same)⟩
 clear hM
 intro uu W15 hJm hd
 have e_0 : uu 0 = .int .i64 2 := hd 0 (by decide)
 have e_1 : uu 1 = .func (.func k) #[] #[] := hd 1 (by decide)
 have e_2 : uu 2 = .agg (cS v.z) := hd 2 (by decide)
 have e_3 : uu 3 = .int .i64 2 := hd 3 (by decide)
 have e_4 : uu 4 = .pointer (some ⟨bk2, 6, none⟩) := hd 4 (by decide)
 have e_5 : uu 5 = .agg (cS u.z) := hd 5 (by decide)
 have e_6 : uu 6 = .agg (cS r.z) := hd 6 (by decide)
 have e_7 : uu 7 = .pointer (some ⟨bk4, 6, none⟩) := hd 7 (by decide)
 clear hd
 simp only [layS, Act.put, zzC, zzD, zzE, Nat.zero_add, Nat.reduceAdd, List.drop_succ_cons, List.drop_zero, List.drop_nil, e_0, e_1, e_2, e_3, e_4, e_5, e_6, e_7]
 clear e_0 e_1 e_2 e_3 e_4 e_5 e_6 e_7
 have hJ15 := hJm.es
 clear hJm
 go_wp2_with (refine stop_store 23 (.tmp 22) (.tmp 21) 3 bk4 6 (cV ⟨r.x, r.y, zS⟩) 24 3 (cS r.z).toList (cV r) [(bk7, (cS v.z), 23), (bk6, (cS v.y), 23), (bk5, (cS v.x), 23), (bk4, (cV r), 24), (bk3, (cV zV), 24), (bk2, (cV u), 25), (bk1, (cV v), 25)] rfl rfl rfl rfl sz23 hJ15 rfl (by kernel_rfl) (zzF (by kernel_rfl)) (by kernel_rfl) (by kernel_rfl) (by kernel_rfl) (fun W16 hJ16 => ?_))
 clear hJ15
 unfold Stop
 try simp only [Act.put, zzC, zzD, zzE]
 go_wp2
 rw [rounds_succ]
 go_wp2_with (refine stop_op rfl (fun K hK => wp_load 24 (.tmp 7) rfl bk4 0 9 (cV r) (cV r) 24 (hJ16.at' _ (zzG (i := 3) rfl)) rfl ag24 sz24 (zzF (by kernel_rfl)) (by kernel_rfl) (hK _ _ ?_)))
 unfold Stop
 try simp only [Act.put, zzC, zzD, zzE]
 go_wp2_with (refine stop_store 24 (.tmp 6) (.tmp 24) 4 bk3 0 (cV zV) 24 9 (cV r).toList (cV r) [(bk7, (cS v.z), 23), (bk6, (cS v.y), 23), (bk5, (cS v.x), 23), (bk4, (cV r), 24), (bk3, (cV r), 24), (bk2, (cV u), 25), (bk1, (cV v), 25)] rfl rfl rfl rfl sz24 hJ16 rfl (by kernel_rfl) (zzF (by kernel_rfl)) (by kernel_rfl) (by kernel_rfl) (by kernel_rfl) (fun W17 hJ17 => ?_))
 clear hJ16
 unfold Stop
 try simp only [Act.put, zzC, zzD, zzE]
 go_wp2
 exact bodyPost_ret (v := .agg (cV r)) (results_cell 4 Tryz.results47 hJ17 rfl ag24 sz24 (zzF (by kernel_rfl)) rfl (by kernel_rfl)) rfl ⟨rfl, hJ17.below⟩
set_option maxRecDepth 100000 in
set_option maxHeartbeats 12800000 in
theorem both_b (k : FuncId) (v u : Vc) (r0 r1 r2 : Bool) (hH0 : ∀ W : World, Calls Tryz.prog k #[.agg (cS v.x), .agg (cS u.x)] W (PVal (.bool r0) W)) (hH1 : ∀ W : World, Calls Tryz.prog k #[.agg (cS v.y), .agg (cS u.y)] W (PVal (.bool r1) W)) (hH2 : ∀ W : World, Calls Tryz.prog k #[.agg (cS v.z), .agg (cS u.z)] W (PVal (.bool r2) W)) (hk : ∀ (args : Array Value) (W : World), (callFunc k args).run Tryz.prog W = .ok (.enter k args) W) (w : World)   : Calls Tryz.prog 50 #[.agg (cV v), .agg (cV u), .func (.func k) #[] #[]] w (PVal (.agg #[.bool r0, .bool r1, .bool r2]) w) := by
 have H0 := Lib.hid hH0
 have H1 := Lib.hid hH1
 have H2 := Lib.hid hH2
 clear hH0 hH1 hH2
 have hJ0 := es_nil w
 go_enter Tryz.func50, Tryz.ntmps50
 go_wp2_with (refine stop_box 25 (.tmp 0) (cV v) rfl rfl rfl hJ0 (fun bk1 W1 hJ1 => ?_))
 clear hJ0
 unfold Stop
 try simp only [Act.put, zzC, zzD, zzE]
 go_wp2_with (refine stop_box 25 (.tmp 1) (cV u) rfl rfl rfl hJ1 (fun bk2 W2 hJ2 => ?_))
 clear hJ1
 unfold Stop
 try simp only [Act.put, zzC, zzD, zzE]
 go_wp2_with (refine stop_alloc 64 #[.bool false, .bool false, .bool false] (.agg #[.bool false, .bool false, .bool false]) rfl rfl zv64 rfl hJ2 (fun bk3 W3 hJ3 => ?_))
 clear hJ2
 unfold Stop
 try simp only [Act.put, zzC, zzD, zzE]
 go_wp2_with (refine stop_alloc 64 #[.bool false, .bool false, .bool false] (.agg #[.bool false, .bool false, .bool false]) rfl rfl zv64 rfl hJ3 (fun bk4 W4 hJ4 => ?_))
 clear hJ3
 unfold Stop
 try simp only [Act.put, zzC, zzD, zzE]
 go_wp2_with (refine stop_op rfl (fun K hK => wp_load 25 (.tmp 3) rfl bk1 0 9 (cV v) (cV v) 25 (hJ4.at' _ (zzG (i := 3) rfl)) rfl ag25 sz25 (zzF (by kernel_rfl)) (by kernel_rfl) (hK _ _ ?_)))
 unfold Stop
 try simp only [Act.put, zzC, zzD, zzE]
 go_wp2
 refine wp_loop_rounds 4 ?_
 rw [rounds_succ]
 go_wp2_with (refine stop_op rfl (fun K hK => wp_idx (v := .agg (cS v.x)) 25 (.tmp 10) (.tmp 11) rfl rfl rfl (fun _ => by kernel_rfl) (hK _ _ ?_)))
 unfold Stop
 try simp only [Act.put, zzC, zzD, zzE]
 go_wp2_with (refine stop_alloc 23 (cS zS) (.agg (cS zS)) rfl rfl zv23 rfl hJ4 (fun bk5 W5 hJ5 => ?_))
 clear hJ4
 unfold Stop
 try simp only [Act.put, zzC, zzD, zzE]
 go_wp2_with (refine stop_store 23 (.tmp 9) (.tmp 14) 0 bk5 0 (cS zS) 23 3 (cS v.x).toList (cS v.x) [(bk5, (cS v.x), 23), (bk4, #[.bool false, .bool false, .bool false], 64), (bk3, #[.bool false, .bool false, .bool false], 64), (bk2, (cV u), 25), (bk1, (cV v), 25)] rfl rfl rfl rfl sz23 hJ5 rfl (by kernel_rfl) (zzF (by kernel_rfl)) (by kernel_rfl) (by kernel_rfl) (by kernel_rfl) (fun W6 hJ6 => ?_))
 clear hJ5
 unfold Stop
 try simp only [Act.put, zzC, zzD, zzE]
 go_wp2
 obtain ⟨m5_6, hm⟩ : ∃ m, m = W6.heap.size := ⟨_, rfl⟩
 have hM := hJ6.em
 rw [← hm] at hM
 clear hm hJ6
 refine wp_region_z 8 [some 15, some 16, some 17, some 18, some 19, some 20, some 21, some 22] (veL m5_6 [.eq (.int .i64 0), .eq (.func (.func k) #[] #[]), .eq (.agg (cS v.x)), .eq (.int .i64 0), .eq (.pointer (some ⟨bk2, 0, none⟩)), .eq (.agg (cS u.x)), .eq (.bool r0), .eq (.pointer (some ⟨bk4, 0, none⟩))]) (Em w m5_6 [(bk5, (cS v.x), 23), (bk4, #[.bool false, .bool false, .bool false], 64), (bk3, #[.bool false, .bool false, .bool false], 64), (bk2, (cV u), 25), (bk1, (cV v), 25)]) (by kernel_rfl) (by kernel_rfl) (by rfl) (by decide) (by rfl) hM ?_ ?_
 ·
  intro i hl hi uu ww aa hJ hd hev hin
  clear hM
  obtain rfl | rfl | rfl | rfl | rfl | rfl | rfl | rfl : i = 0 ∨ i = 1 ∨ i = 2 ∨ i = 3 ∨ i = 4 ∨ i = 5 ∨ i = 6 ∨ i = 7 := by omega
  ·
   exact .inr ⟨rfl, fun K' hK => wp_move (.tmp 8) rfl (eval_tmp ((hev 8 (by decide)).trans rfl)) (hK _ _ hJ rfl veL_same)⟩
  ·
   exact .inr ⟨rfl, fun K' hK => wp_move (.tmp 2) rfl (eval_tmp ((hev 2 (by decide)).trans rfl)) (hK _ _ hJ rfl veL_same)⟩
  ·
   exact .inr ⟨rfl, fun K' hK => wp_load 23 (.tmp 9) rfl bk5 0 3 (cS v.x) (cS v.x) 23 (hJ.es.at' _ (zzG (i := 0) rfl)) (eval_tmp ((hev 9 (by decide)).trans rfl)) ag23 sz23 (zzF (by kernel_rfl)) (by kernel_rfl) (hK _ _ hJ rfl veL_same)⟩
  ·
   exact .inr ⟨rfl, fun K' hK => wp_move (.tmp 8) rfl (eval_tmp ((hev 8 (by decide)).trans rfl)) (hK _ _ hJ rfl veL_same)⟩
  ·
   exact .inr ⟨rfl, fun K' hK => wp_ixa 25 (.tmp 4) (.tmp 18) rfl (eval_tmp ((hev 4 (by decide)).trans rfl)) (eval_tmp ((hin 3 18 rfl).trans (congrArg some (show uu 3 = .int .i64 0 from hd 3 (by decide) (by kernel_rfl))))) (fun _ => by kernel_rfl) (hK _ _ hJ rfl veL_same)⟩
  ·
   exact .inr ⟨rfl, fun K' hK => wp_load 23 (.tmp 19) rfl bk2 0 3 (cV u) (cS u.x) 25 (hJ.es.at' _ (zzG (i := 3) rfl)) (eval_tmp ((hin 4 19 rfl).trans (congrArg some (show uu 4 = .pointer (some ⟨bk2, 0, none⟩) from hd 4 (by decide) (by kernel_rfl))))) ag23 sz23 (zzF (by kernel_rfl)) (by kernel_rfl) (hK _ _ hJ rfl veL_same)⟩
  ·
   exact .inr ⟨rfl, fun K' hK => wp_callv (.tmp 16) #[.tmp 17, .tmp 20] _ k #[] #[.agg (cS v.x), .agg (cS u.x)] #[.agg (cS v.x), .agg (cS u.x)] rfl (eval_tmp ((hin 1 16 rfl).trans (congrArg some (show uu 1 = .func (.func k) #[] #[] from hd 1 (by decide) (by kernel_rfl))))) (map2 (eval_tmp ((hin 2 17 rfl).trans (congrArg some (show uu 2 = .agg (cS v.x) from hd 2 (by decide) (by kernel_rfl))))) (eval_tmp ((hin 5 20 rfl).trans (congrArg some (show uu 5 = .agg (cS u.x) from hd 5 (by decide) (by kernel_rfl)))))) (by kernel_rfl) hk (H0.out ww) (fun _ hB => (hK _ _ (hJ.later hB) rfl (veL_later hB)))⟩
  ·
   exact .inr ⟨rfl, fun K' hK => wp_ixa 64 (.tmp 7) (.tmp 15) rfl (eval_tmp ((hev 7 (by decide)).trans rfl)) (eval_tmp ((hin 0 15 rfl).trans (congrArg some (show uu 0 = .int .i64 0 from hd 0 (by decide) (by kernel_rfl))))) (fun _ => by kernel_rfl) (hK _ _ hJ rfl veL_same)⟩
 clear hM
 intro uu W7 hJm hd
 have e_0 : uu 0 = .int .i64 0 := hd 0 (by decide)
 have e_1 : uu 1 = .func (.func k) #[] #[] := hd 1 (by decide)
 have e_2 : uu 2 = .agg (cS v.x) := hd 2 (by decide)
 have e_3 : uu 3 = .int .i64 0 := hd 3 (by decide)
 have e_4 : uu 4 = .pointer (some ⟨bk2, 0, none⟩) := hd 4 (by decide)
 have e_5 : uu 5 = .agg (cS u.x) := hd 5 (by decide)
 have e_6 : uu 6 = .bool r0 := hd 6 (by decide)
 have e_7 : uu 7 = .pointer (some ⟨bk4, 0, none⟩) := hd 7 (by decide)
 clear hd
 simp only [layS, Act.put, zzC, zzD, zzE, Nat.zero_add, Nat.reduceAdd, List.drop_succ_cons, List.drop_zero, List.drop_nil, e_0, e_1, e_2, e_3, e_4, e_5, e_6, e_7]
 clear e_0 e_1 e_2 e_3 e_4 e_5 e_6 e_7
 have hJ7 := hJm.es
 clear hJm
 go_wp2_with (refine stop_store 4 (.tmp 22) (.tmp 21) 1 bk4 0 #[.bool false, .bool false, .bool false] 64 1 [.bool r0] #[.bool r0, .bool false, .bool false] [(bk5, (cS v.x), 23), (bk4, #[.bool r0, .bool false, .bool false], 64), (bk3, #[.bool false, .bool false, .bool false], 64), (bk2, (cV u), 25), (bk1, (cV v), 25)] rfl rfl rfl rfl sz4 hJ7 rfl (by kernel_rfl) (zzF (by kernel_rfl)) (by kernel_rfl) (by kernel_rfl) (by kernel_rfl) (fun W8 hJ8 => ?_))
 clear hJ7
 unfold Stop
 try simp only [Act.put, zzC, zzD, zzE]
 go_wp2
 rw [rounds_succ]
 go_wp2_with (refine stop_op rfl (fun K hK => wp_idx (v := .agg (cS v.y)) 25 (.tmp 10) (.tmp 11) rfl rfl rfl (fun _ => by kernel_rfl) (hK _ _ ?_)))
 unfold Stop
 try simp only [Act.put, zzC, zzD, zzE]
 go_wp2_with (refine stop_alloc 23 (cS zS) (.agg (cS zS)) rfl rfl zv23 rfl hJ8 (fun bk6 W9 hJ9 => ?_))
 clear hJ8
 unfold Stop
 try simp only [Act.put, zzC, zzD, zzE]
 go_wp2_with (refine stop_store 23 (.tmp 9) (.tmp 14) 0 bk6 0 (cS zS) 23 3 (cS v.y).toList (cS v.y) [(bk6, (cS v.y), 23), (bk5, (cS v.x), 23), (bk4, #[.bool r0, .bool false, .bool false], 64), (bk3, #[.bool false, .bool false, .bool false], 64), (bk2, (cV u), 25), (bk1, (cV v), 25)] rfl rfl rfl rfl sz23 hJ9 rfl (by kernel_rfl) (zzF (by kernel_rfl)) (by kernel_rfl) (by kernel_rfl) (by kernel_rfl) (fun W10 hJ10 => ?_))
 clear hJ9
 unfold Stop
 try simp only [Act.put, zzC, zzD, zzE]
 go_wp2
 obtain ⟨m5_10, hm⟩ : ∃ m, m = W10.heap.size := ⟨_, rfl⟩
 have hM := hJ10.em
 rw [← hm] at hM
 clear hm hJ10
 refine wp_region_z 8 [some 15, some 16, some 17, some 18, some 19, some 20, some 21, some 22] (veL m5_10 [.eq (.int .i64 1), .eq (.func (.func k) #[] #[]), .eq (.agg (cS v.y)), .eq (.int .i64 1), .eq (.pointer (some ⟨bk2, 3, none⟩)), .eq (.agg (cS u.y)), .eq (.bool r1), .eq (.pointer (some ⟨bk4, 1, none⟩))]) (Em w m5_10 [(bk6, (cS v.y), 23), (bk5, (cS v.x), 23), (bk4, #[.bool r0, .bool false, .bool false], 64), (bk3, #[.bool false, .bool false, .bool false], 64), (bk2, (cV u), 25), (bk1, (cV v), 25)]) (by kernel_rfl) (by kernel_rfl) (by rfl) (by decide) (by rfl) hM ?_ ?_
 ·
  intro i hl hi uu ww aa hJ hd hev hin
  clear hM
  obtain rfl | rfl | rfl | rfl | rfl | rfl | rfl | rfl : i = 0 ∨ i = 1 ∨ i = 2 ∨ i = 3 ∨ i = 4 ∨ i = 5 ∨ i = 6 ∨ i = 7 := by omega
  ·
   exact .inr ⟨rfl, fun K' hK => wp_move (.tmp 8) rfl (eval_tmp ((hev 8 (by decide)).trans rfl)) (hK _ _ hJ rfl veL_same)⟩
  ·
   exact .inr ⟨rfl, fun K' hK => wp_move (.tmp 2) rfl (eval_tmp ((hev 2 (by decide)).trans rfl)) (hK _ _ hJ rfl veL_same)⟩
  ·
   exact .inr ⟨rfl, fun K' hK => wp_load 23 (.tmp 9) rfl bk6 0 3 (cS v.y) (cS v.y) 23 (hJ.es.at' _ (zzG (i := 0) rfl)) (eval_tmp ((hev 9 (by decide)).trans rfl)) ag23 sz23 (zzF (by kernel_rfl)) (by kernel_rfl) (hK _ _ hJ rfl veL_same)⟩
  ·
   exact .inr ⟨rfl, fun K' hK => wp_move (.tmp 8) rfl (eval_tmp ((hev 8 (by decide)).trans rfl)) (hK _ _ hJ rfl veL_same)⟩
  ·
   exact .inr ⟨rfl, fun K' hK => wp_ixa 25 (.tmp 4) (.tmp 18) rfl (eval_tmp ((hev 4 (by decide)).trans rfl)) (eval_tmp ((hin 3 18 rfl).trans (congrArg some (show uu 3 = .int .i64 1 from hd 3 (by decide) (by kernel_rfl))))) (fun _ => by kernel_rfl) (hK _ _ hJ rfl veL_same)⟩
  ·
   exact .inr ⟨rfl, fun K' hK => wp_load 23 (.tmp 19) rfl bk2 3 3 (cV u) (cS u.y) 25 (hJ.es.at' _ (zzG (i := 4) rfl)) (eval_tmp ((hin 4 19 rfl).trans (congrArg some (show uu 4 = .pointer (some ⟨bk2, 3, none⟩) from hd 4 (by decide) (by kernel_rfl))))) ag23 sz23 (zzF (by kernel_rfl)) (by kernel_rfl) (hK _ _ hJ rfl veL_same)⟩
  ·
   exact .inr ⟨rfl, fun K' hK => wp_callv (.tmp 16) #[.tmp 17, .tmp 20] _ k #[] #[.agg (cS v.y), .agg (cS u.y)] #[.agg (cS v.y), .agg (cS u.y)] rfl (eval_tmp ((hin 1 16 rfl).trans (congrArg some (show uu 1 = .func (.func k) #[] #[] from hd 1 (by decide) (by kernel_rfl))))) (map2 (eval_tmp ((hin 2 17 rfl).trans (congrArg some (show uu 2 = .agg (cS v.y) from hd 2 (by decide) (by kernel_rfl))))) (eval_tmp ((hin 5 20 rfl).trans (congrArg some (show uu 5 = .agg (cS u.y) from hd 5 (by decide) (by kernel_rfl)))))) (by kernel_rfl) hk (H1.out ww) (fun _ hB => (hK _ _ (hJ.later hB) rfl (veL_later hB)))⟩
  ·
   exact .inr ⟨rfl, fun K' hK => wp_ixa 64 (.tmp 7) (.tmp 15) rfl (eval_tmp ((hev 7 (by decide)).trans rfl)) (eval_tmp ((hin 0 15 rfl).trans (congrArg some (show uu 0 = .int .i64 1 from hd 0 (by decide) (by kernel_rfl))))) (fun _ => by kernel_rfl) (hK _ _ hJ rfl veL_same)⟩
 clear hM
 intro uu W11 hJm hd
 have e_0 : uu 0 = .int .i64 1 := hd 0 (by decide)
 have e_1 : uu 1 = .func (.func k) #[] #[] := hd 1 (by decide)
 have e_2 : uu 2 = .agg (cS v.y) := hd 2 (by decide)
 have e_3 : uu 3 = .int .i64 1 := hd 3 (by decide)
 have e_4 : uu 4 = .pointer (some ⟨bk2, 3, none⟩) := hd 4 (by decide)
 have e_5 : uu 5 = .agg (cS u.y) := hd 5 (by decide)
 have e_6 : uu 6 = .bool r1 := hd 6 (by decide)
 have e_7 : uu 7 = .pointer (some ⟨bk4, 1, none⟩) := hd 7 (by decide)
 clear hd
 simp only [layS, Act.put, zzC, zzD, zzE, Nat.zero_add, Nat.reduceAdd, List.drop_succ_cons, List.drop_zero, List.drop_nil, e_0, e_1, e_2, e_3, e_4, e_5, e_6, e_7]
 clear e_0 e_1 e_2 e_3 e_4 e_5 e_6 e_7
 have hJ11 := hJm.es
 clear hJm
 go_wp2_with (refine stop_store 4 (.tmp 22) (.tmp 21) 2 bk4 1 #[.bool r0, .bool false, .bool false] 64 1 [.bool r1] #[.bool r0, .bool r1, .bool false] [(bk6, (cS v.y), 23), (bk5, (cS v.x), 23), (bk4, #[.bool r0, .bool r1, .bool false], 64), (bk3, #[.bool false, .bool false, .bool false], 64), (bk2, (cV u), 25), (bk1, (cV v), 25)] rfl rfl rfl rfl sz4 hJ11 rfl (by kernel_rfl) (zzF (by kernel_rfl)) (by kernel_rfl) (by kernel_rfl) (by kernel_rfl) (fun W12 hJ12 => ?_))
 clear hJ11
 unfold Stop
 try simp only [Act.put, zzC, zzD, zzE]
 go_wp2
 rw [rounds_succ]
 go_wp2_with (refine stop_op rfl (fun K hK => wp_idx (v := .agg (cS v.z)) 25 (.tmp 10) (.tmp 11) rfl rfl rfl (fun _ => by kernel_rfl) (hK _ _ ?_)))
 unfold Stop
 try simp only [Act.put, zzC, zzD, zzE]
 go_wp2_with (refine stop_alloc 23 (cS zS) (.agg (cS zS)) rfl rfl zv23 rfl hJ12 (fun bk7 W13 hJ13 => ?_))
 clear hJ12
 unfold Stop
 try simp only [Act.put, zzC, zzD, zzE]
 go_wp2_with (refine stop_store 23 (.tmp 9) (.tmp 14) 0 bk7 0 (cS zS) 23 3 (cS v.z).toList (cS v.z) [(bk7, (cS v.z), 23), (bk6, (cS v.y), 23), (bk5, (cS v.x), 23), (bk4, #[.bool r0, .bool r1, .bool false], 64), (bk3, #[.bool false, .bool false, .bool false], 64), (bk2, (cV u), 25), (bk1, (cV v), 25)] rfl rfl rfl rfl sz23 hJ13 rfl (by kernel_rfl) (zzF (by kernel_rfl)) (by kernel_rfl) (by kernel_rfl) (by kernel_rfl) (fun W14 hJ14 => ?_))
 clear hJ13
 unfold Stop
 try simp only [Act.put, zzC, zzD, zzE]
 go_wp2
 obtain ⟨m5_14, hm⟩ : ∃ m, m = W14.heap.size := ⟨_, rfl⟩
 have hM := hJ14.em
 rw [← hm] at hM
 clear hm hJ14
 refine wp_region_z 8 [some 15, some 16, some 17, some 18, some 19, some 20, some 21, some 22] (veL m5_14 [.eq (.int .i64 2), .eq (.func (.func k) #[] #[]), .eq (.agg (cS v.z)), .eq (.int .i64 2), .eq (.pointer (some ⟨bk2, 6, none⟩)), .eq (.agg (cS u.z)), .eq (.bool r2), .eq (.pointer (some ⟨bk4, 2, none⟩))]) (Em w m5_14 [(bk7, (cS v.z), 23), (bk6, (cS v.y), 23), (bk5, (cS v.x), 23), (bk4, #[.bool r0, .bool r1, .bool false], 64), (bk3, #[.bool false, .bool false, .bool false], 64), (bk2, (cV u), 25), (bk1, (cV v), 25)]) (by kernel_rfl) (by kernel_rfl) (by rfl) (by decide) (by rfl) hM ?_ ?_
 ·
  intro i hl hi uu ww aa hJ hd hev hin
  clear hM
  obtain rfl | rfl | rfl | rfl | rfl | rfl | rfl | rfl : i = 0 ∨ i = 1 ∨ i = 2 ∨ i = 3 ∨ i = 4 ∨ i = 5 ∨ i = 6 ∨ i = 7 := by omega
  ·
   exact .inr ⟨rfl, fun K' hK => wp_move (.tmp 8) rfl (eval_tmp ((hev 8 (by decide)).trans rfl)) (hK _ _ hJ rfl veL_same)⟩
  ·
   exact .inr ⟨rfl, fun K' hK => wp_move (.tmp 2) rfl (eval_tmp ((hev 2 (by decide)).trans rfl)) (hK _ _ hJ rfl veL_same)⟩
  ·
   exact .inr ⟨rfl, fun K' hK => wp_load 23 (.tmp 9) rfl bk7 0 3 (cS v.z) (cS v.z) 23 (hJ.es.at' _ (zzG (i := 0) rfl)) (eval_tmp ((hev 9 (by decide)).trans rfl)) ag23 sz23 (zzF (by kernel_rfl)) (by kernel_rfl) (hK _ _ hJ rfl veL_same)⟩
  ·
   exact .inr ⟨rfl, fun K' hK => wp_move (.tmp 8) rfl (eval_tmp ((hev 8 (by decide)).trans rfl)) (hK _ _ hJ rfl veL_same)⟩
  ·
   exact .inr ⟨rfl, fun K' hK => wp_ixa 25 (.tmp 4) (.tmp 18) rfl (eval_tmp ((hev 4 (by decide)).trans rfl)) (eval_tmp ((hin 3 18 rfl).trans (congrArg some (show uu 3 = .int .i64 2 from hd 3 (by decide) (by kernel_rfl))))) (fun _ => by kernel_rfl) (hK _ _ hJ rfl veL_same)⟩
  ·
   exact .inr ⟨rfl, fun K' hK => wp_load 23 (.tmp 19) rfl bk2 6 3 (cV u) (cS u.z) 25 (hJ.es.at' _ (zzG (i := 5) rfl)) (eval_tmp ((hin 4 19 rfl).trans (congrArg some (show uu 4 = .pointer (some ⟨bk2, 6, none⟩) from hd 4 (by decide) (by kernel_rfl))))) ag23 sz23 (zzF (by kernel_rfl)) (by kernel_rfl) (hK _ _ hJ rfl veL_same)⟩
  ·
   exact .inr ⟨rfl, fun K' hK => wp_callv (.tmp 16) #[.tmp 17, .tmp 20] _ k #[] #[.agg (cS v.z), .agg (cS u.z)] #[.agg (cS v.z), .agg (cS u.z)] rfl (eval_tmp ((hin 1 16 rfl).trans (congrArg some (show uu 1 = .func (.func k) #[] #[] from hd 1 (by decide) (by kernel_rfl))))) (map2 (eval_tmp ((hin 2 17 rfl).trans (congrArg some (show uu 2 = .agg (cS v.z) from hd 2 (by decide) (by kernel_rfl))))) (eval_tmp ((hin 5 20 rfl).trans (congrArg some (show uu 5 = .agg (cS u.z) from hd 5 (by decide) (by kernel_rfl)))))) (by kernel_rfl) hk (H2.out ww) (fun _ hB => (hK _ _ (hJ.later hB) rfl (veL_later hB)))⟩
  ·
   exact .inr ⟨rfl, fun K' hK => wp_ixa 64 (.tmp 7) (.tmp 15) rfl (eval_tmp ((hev 7 (by decide)).trans rfl)) (eval_tmp ((hin 0 15 rfl).trans (congrArg some (show uu 0 = .int .i64 2 from hd 0 (by decide) (by kernel_rfl))))) (fun _ => by kernel_rfl) (hK _ _ hJ rfl veL_same)⟩
 clear hM
 intro uu W15 hJm hd
 have e_0 : uu 0 = .int .i64 2 := hd 0 (by decide)
 have e_1 : uu 1 = .func (.func k) #[] #[] := hd 1 (by decide)
 have e_2 : uu 2 = .agg (cS v.z) := hd 2 (by decide)
 have e_3 : uu 3 = .int .i64 2 := hd 3 (by decide)
 have e_4 : uu 4 = .pointer (some ⟨bk2, 6, none⟩) := hd 4 (by decide)
 have e_5 : uu 5 = .agg (cS u.z) := hd 5 (by decide)
 have e_6 : uu 6 = .bool r2 := hd 6 (by decide)
 have e_7 : uu 7 = .pointer (some ⟨bk4, 2, none⟩) := hd 7 (by decide)
 clear hd
 simp only [layS, Act.put, zzC, zzD, zzE, Nat.zero_add, Nat.reduceAdd, List.drop_succ_cons, List.drop_zero, List.drop_nil, e_0, e_1, e_2, e_3, e_4, e_5, e_6, e_7]
 clear e_0 e_1 e_2 e_3 e_4 e_5 e_6 e_7
 have hJ15 := hJm.es
 clear hJm
 go_wp2_with (refine stop_store 4 (.tmp 22) (.tmp 21) 3 bk4 2 #[.bool r0, .bool r1, .bool false] 64 1 [.bool r2] #[.bool r0, .bool r1, .bool r2] [(bk7, (cS v.z), 23), (bk6, (cS v.y), 23), (bk5, (cS v.x), 23), (bk4, #[.bool r0, .bool r1, .bool r2], 64), (bk3, #[.bool false, .bool false, .bool false], 64), (bk2, (cV u), 25), (bk1, (cV v), 25)] rfl rfl rfl rfl sz4 hJ15 rfl (by kernel_rfl) (zzF (by kernel_rfl)) (by kernel_rfl) (by kernel_rfl) (by kernel_rfl) (fun W16 hJ16 => ?_))
 clear hJ15
 unfold Stop
 try simp only [Act.put, zzC, zzD, zzE]
 go_wp2
 rw [rounds_succ]
 go_wp2_with (refine stop_op rfl (fun K hK => wp_load 64 (.tmp 7) rfl bk4 0 3 #[.bool r0, .bool r1, .bool r2] #[.bool r0, .bool r1, .bool r2] 64 (hJ16.at' _ (zzG (i := 3) rfl)) rfl ag64 sz64 (zzF (by kernel_rfl)) (by kernel_rfl) (hK _ _ ?_)))
 unfold Stop
 try simp only [Act.put, zzC, zzD, zzE]
 go_wp2_with (refine stop_store 64 (.tmp 6) (.tmp 24) 4 bk3 0 #[.bool false, .bool false, .bool false] 64 3 #[.bool r0, .bool r1, .bool r2].toList #[.bool r0, .bool r1, .bool r2] [(bk7, (cS v.z), 23), (bk6, (cS v.y), 23), (bk5, (cS v.x), 23), (bk4, #[.bool r0, .bool r1, .bool r2], 64), (bk3, #[.bool r0, .bool r1, .bool r2], 64), (bk2, (cV u), 25), (bk1, (cV v), 25)] rfl rfl rfl rfl sz64 hJ16 rfl (by kernel_rfl) (zzF (by kernel_rfl)) (by kernel_rfl) (by kernel_rfl) (by kernel_rfl) (fun W17 hJ17 => ?_))
 clear hJ16
 unfold Stop
 try simp only [Act.put, zzC, zzD, zzE]
 go_wp2
 exact bodyPost_ret (v := .agg #[.bool r0, .bool r1, .bool r2]) (results_cell 4 Tryz.results50 hJ17 rfl ag64 sz64 (zzF (by kernel_rfl)) rfl (by kernel_rfl)) rfl ⟨rfl, hJ17.below⟩
end Go.Proofs.YtolpfibihialkaaGreat
