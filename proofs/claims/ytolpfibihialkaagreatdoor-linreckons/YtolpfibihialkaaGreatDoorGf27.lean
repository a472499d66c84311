/- Parts of the proof. -/
import Derived.Test.YtolpfibihialkaaGreatDoorGf0
import Derived.Test.YtolpfibihialkaaGreatDoorGf23
import Derived.Test.YtolpfibihialkaaGreatDoorGf21
/- Package lin: the walks of Turned, Mul, Apply, Quad and their closures. No statement of the seat is proved here. -/
namespace Go.Proofs.YtolpfibihialkaaGreatDoor
open Go Go.RowKit
set_option maxRecDepth 100000 in
set_option maxHeartbeats 12800000 in
theorem lTurned1 {X0 : Nat → Prop} {w : World} (hX : NX X0 w) {n : Nat} {a : Sl} {B : Nat → Nat → Int} (bA i j : Nat) (hi : i < n) (hj : j < n) (cA : Cf bA #[a.v] 30 X0 w) (ha : Mt n (fun _ => n) B a X0 w) : Calls Tryz.prog 51 #[.int .i64 ((i : Nat) : Int), .int .i64 ((j : Nat) : Int), .pointer (some ⟨bA, 0, none⟩)] w (PNX X0 (B j i) w) := by
 have hZ0 := zs_start hX
 have hZ1 := hZ0.more (f := Cf bA #[a.v] 30) (Cf.stb _ _ _) cA
 clear hZ0
 have hZ2 := hZ1.more (f := Mt n (fun _ => n) B a) (Mt.stb _ _ _ _) ha
 clear hZ1
 go_enter Tryz.func51, Tryz.ntmps51
 go_wp2_with (refine stopz_alloc 46 #[.bool false, .slice none 0 0] (.agg #[.bool false, .slice none 0 0]) rfl rfl zv46 rfl hZ2 (fun bk1 X3 W1 hZ3 => ?_))
 clear hZ2
 unfold Stop
 try simp only [Act.put, zzC, zzD, zzE]
 go_wp2_with (refine stop_op rfl (fun K hK => wp_load1 (v := a.v) 30 (.tmp 2) rfl bA 0 #[a.v] 30 (hZ3.get 1 (f := Cf bA #[a.v] 30) rfl).1 rfl ag30 (by kernel_rfl) (hK _ _ ?_)))
 unfold Stop
 try simp only [Act.put, zzC, zzD, zzE]
 go_wp2_with (refine stop_op rfl (fun K hK => wp_ixs 30 (.tmp 6) (.tmp 7) a j 1 35 rfl rfl rfl (by kernel_rfl) sz35 (fun h => ((hZ3.get 0 (f := Mt n (fun _ => n) B a) rfl).sq.nil h).1) ((hZ3.get 0 (f := Mt n (fun _ => n) B a) rfl).n ▸ (by omega)) (hK _ _ ?_)))
 unfold Stop
 try simp only [Act.put, zzC, zzD, zzE]
 go_wp2_with (refine stop_op rfl (fun K hK => wp_ldm 35 (.tmp 8) a j n (fun _ => n) B rfl rfl (hZ3.get 0 (f := Mt n (fun _ => n) B a) rfl) (by omega) ag35 (fun s1 hi_s1 => hK _ _ ?_)))
 unfold Stop
 try simp only [Act.put, zzC, zzD, zzE]
 have hZ4 := hZ3.more (f := Ls n (B j) s1) (Ls.stb _ _ _) hi_s1
 clear hZ3
 clear hi_s1
 go_wp2_with (refine stop_op rfl (fun K hK => wp_ixs 35 (.tmp 9) (.tmp 10) s1 i 2 46 rfl rfl rfl (by kernel_rfl) sz46 (fun h => ((hZ4.get 0 (f := Ls n (B j) s1) rfl).sq.nil h).1) ((hZ4.get 0 (f := Ls n (B j) s1) rfl).n ▸ (by omega)) (hK _ _ ?_)))
 unfold Stop
 try simp only [Act.put, zzC, zzD, zzE]
 go_wp2_with (refine stop_op rfl (fun K hK => wp_ldn 46 (.tmp 11) s1 i n (B j) rfl rfl (hZ4.get 0 (f := Ls n (B j) s1) rfl) (by omega) ag46 sz46 (fun q2 ez_q2 hi_q2 => hK _ _ ?_)))
 unfold Stop
 try simp only [Act.put, zzC, zzD, zzE]
 have hZ5 := hZ4.more (f := q2.is) q2.stb hi_q2
 clear hZ4
 clear hi_q2
 go_wp2_with (refine stopz_store 46 (.tmp 5) (.tmp 12) 0 bk1 0 #[.bool false, .slice none 0 0] 46 2 [.bool q2.b, .slice q2.a q2.n q2.c] #[.bool q2.b, .slice q2.a q2.n q2.c] [(bk1, #[.bool q2.b, .slice q2.a q2.n q2.c], 46)] rfl rfl rfl rfl sz46 hZ5 rfl rfl (zzF (by kernel_rfl)) (by kernel_rfl) (by kernel_rfl) (by kernel_rfl) (fun W2 hZ6 => ?_))
 clear hZ5
 unfold Stop
 try simp only [Act.put, zzC, zzD, zzE]
 go_wp2
 exact bodyPost_ret (v := q2.v) (results_cell 0 Tryz.results51 hZ6.es rfl ag46 sz46 (zzF (by kernel_rfl)) rfl (by kernel_rfl)) rfl ⟨q2, rfl, ez_q2, hZ6.out 0 (f := q2.is) rfl, hZ6.below⟩
set_option maxRecDepth 100000 in
set_option maxHeartbeats 12800000 in
theorem lTurned {X0 : Nat → Prop} {w : World} (hX : NX X0 w) (a : Sl) {n : Nat} {B : Nat → Nat → Int} (hn : n ≤ 1000) (ha : Mt n (fun _ => n) B a X0 w) : Calls Tryz.prog 13 #[a.v] w (PMX X0 n (fun _ => n) (fun i j => B j i) w) := by
 have hZ0 := zs_start hX
 have hZ1 := hZ0.more (f := Mt n (fun _ => n) B a) (Mt.stb _ _ _ _) ha
 clear hZ0
 go_enter Tryz.func13, Tryz.ntmps13
 go_wp2_with (refine stopz_box 30 (.tmp 0) #[a.v] rfl rfl rfl hZ1 (fun bk1 X2 W1 hZ2 => ?_))
 clear hZ1
 unfold Stop
 try simp only [Act.put, zzC, zzD, zzE]
 have hZ3 := hZ2.release hX
 clear hZ2
 go_wp2_with (refine stop_op rfl (fun K hK => wp_load1 (v := a.v) 30 (.tmp 1) rfl bk1 0 #[a.v] 30 (hZ3.get 0 (f := Cf bk1 #[a.v] 30) rfl).1 rfl ag30 (by kernel_rfl) (hK _ _ ?_)))
 unfold Stop
 try simp only [Act.put, zzC, zzD, zzE]
 go_wp2_with (refine stop_op rfl (fun K hK => wp_lenq (.tmp 3) 30 35 a rfl (by kernel_rfl) rfl (hZ3.get 1 (f := Mt n (fun _ => n) B a) rfl).n (hK _ _ ?_)))
 unfold Stop
 try simp only [Act.put, zzC, zzD, zzE]
 go_wp2_with (refine stop_op rfl (fun K hK => wp_mkf 51 #[.tmp 1] #[.pointer (some ⟨bk1, 0, none⟩)] rfl (map1 rfl) (hK _ _ ?_)))
 unfold Stop
 try simp only [Act.put, zzC, zzD, zzE]
 go_wp2_with fail
 refine (lSquare hZ3.nx n 51 #[.pointer (some ⟨bk1, 0, none⟩)] (fun i j => B j i) (by omega) ⟨fun _ _ => rfl, fun i j hi hj X' W' hx he hb => (show Calls _ _ #[.int .i64 ((i : Nat) : Int), .int .i64 ((j : Nat) : Int), .pointer (some ⟨bk1, 0, none⟩)] _ _ from lTurned1 hx bk1 i j hi hj (Cf.stb _ _ _ _ _ _ _ he (hZ3.get 0 (f := Cf bk1 #[a.v] 30) rfl)) (Mt.stb _ _ _ _ _ _ _ _ he (hZ3.get 1 (f := Mt n (fun _ => n) B a) rfl)))⟩).mono ?_
 rintro zz W2 ⟨s1, rfl, hi_s1, hB⟩
 have hZ4 := hZ3.later hB
 clear hB
 clear hZ3
 have hZ5 := hZ4.more (f := Mt n (fun _ => n) (fun i j => B j i) s1) (Mt.stb _ _ _ _) hi_s1
 clear hZ4
 clear hi_s1
 go_wp2
 go_ret
 exact ⟨s1, rfl, hZ5.out 0 (f := Mt n (fun _ => n) (fun i j => B j i) s1) rfl, hZ5.below⟩
set_option maxRecDepth 100000 in
set_option maxHeartbeats 12800000 in
theorem lMul1 {X0 : Nat → Prop} {w : World} (hX : NX X0 w) {n e : Nat} {a c : Sl} {B D : Nat → Nat → Int} (bA bC i j : Nat) (hi : i < n) (hj : j < n) (cA : Cf bA #[a.v] 30 X0 w) (cC : Cf bC #[c.v] 30 X0 w) (ha : Mt n (fun _ => n) B a X0 w) (hc : Mt n (fun _ => n) D c X0 w) (bB : ∀ i k, i < n → k < n → Sz e (B i k)) (bD : ∀ i k, i < n → k < n → Sz e (D i k)) (he : e ≤ 1000000) (hn : n ≤ 1000) : Calls Tryz.prog 49 #[.int .i64 ((i : Nat) : Int), .int .i64 ((j : Nat) : Int), .pointer (some ⟨bA, 0, none⟩), .pointer (some ⟨bC, 0, none⟩)] w (PNX X0 (M.sm n (fun k => B i k * D j k)) w) := by
 have hZ0 := zs_start hX
 have hZ1 := hZ0.more (f := Cf bA #[a.v] 30) (Cf.stb _ _ _) cA
 clear hZ0
 have hZ2 := hZ1.more (f := Cf bC #[c.v] 30) (Cf.stb _ _ _) cC
 clear hZ1
 have hZ3 := hZ2.more (f := Mt n (fun _ => n) B a) (Mt.stb _ _ _ _) ha
 clear hZ2
 have hZ4 := hZ3.more (f := Mt n (fun _ => n) D c) (Mt.stb _ _ _ _) hc
 clear hZ3
 go_enter Tryz.func49, Tryz.ntmps49
 go_wp2_with (refine stopz_alloc 46 #[.bool false, .slice none 0 0] (.agg #[.bool false, .slice none 0 0]) rfl rfl zv46 rfl hZ4 (fun bk1 X5 W1 hZ5 => ?_))
 clear hZ4
 unfold Stop
 try simp only [Act.put, zzC, zzD, zzE]
 go_wp2
 have hM : Zs w W1.drew X0 X5 [(bk1, #[.bool false, .slice none 0 0], 46)] [Mt n (fun _ => n) D c, Mt n (fun _ => n) B a, Cf bC #[c.v] 30, Cf bA #[a.v] 30] ∧ Below W1.heap.size W1 W1.drew := ⟨hZ5.later (Below.refl _ _).drew, (Below.refl _ _).drew⟩
 clear hZ5
 have hVS1 : ∀ k, k ∈ ([veq (a.v), veq (.int .i64 (((i : Nat) : Int))), veq ((a.at 1 i)), vls n (B i), veq (c.v), veq (.int .i64 (((j : Nat) : Int))), veq ((c.at 1 j)), vls n (D j), vnum (M.sm n (fun k => B i k * D j k))] : List VF) → VSt k := by
  intro k hk
  simp only [List.mem_cons, List.not_mem_nil, or_false] at hk
  rcases hk with rfl | rfl | rfl | rfl | rfl | rfl | rfl | rfl | rfl
  ·
   exact veq_st _
  ·
   exact veq_st _
  ·
   exact veq_st _
  ·
   exact vls_st _ _
  ·
   exact veq_st _
  ·
   exact veq_st _
  ·
   exact veq_st _
  ·
   exact vls_st _ _
  ·
   exact vnum_st _
 refine wp_region_q 9 [some 7, some 8, some 9, some 10, some 11, some 12, some 13, some 14, some 15] (vzL [veq (a.v), veq (.int .i64 (((i : Nat) : Int))), veq ((a.at 1 i)), vls n (B i), veq (c.v), veq (.int .i64 (((j : Nat) : Int))), veq ((c.at 1 j)), vls n (D j), vnum (M.sm n (fun k => B i k * D j k))] X5) (fun W => Zs w W X0 X5 [(bk1, #[.bool false, .slice none 0 0], 46)] [Mt n (fun _ => n) D c, Mt n (fun _ => n) B a, Cf bC #[c.v] 30, Cf bA #[a.v] 30] ∧ Below W1.heap.size W1 W) (by kernel_rfl) (by kernel_rfl) (by rfl) (by decide) (by rfl) hM ?_ ?_
 ·
  intro i hl hi LL uu ww aa hLi hLc hJ hd hev hin hold
  clear hM
  obtain ⟨hJ, hJb⟩ := hJ
  obtain rfl | rfl | rfl | rfl | rfl | rfl | rfl | rfl | rfl : i = 0 ∨ i = 1 ∨ i = 2 ∨ i = 3 ∨ i = 4 ∨ i = 5 ∨ i = 6 ∨ i = 7 ∨ i = 8 := by omega
  ·
   exact .inr ⟨rfl, fun K' hK => wp_load1 (v := a.v) 30 (.tmp 2) rfl bA 0 #[a.v] 30 (hJ.get 3 (f := Cf bA #[a.v] 30) rfl).1 (eval_tmp ((hev 2 (by decide)).trans rfl)) ag30 (by kernel_rfl) (hK _ _ ⟨hJ, hJb⟩ rfl vzL_same)⟩
  ·
   exact .inr ⟨rfl, fun K' hK => wp_move (.tmp 0) rfl (eval_tmp ((hev 0 (by decide)).trans rfl)) (hK _ _ ⟨hJ, hJb⟩ rfl vzL_same)⟩
  ·
   exact .inr ⟨rfl, fun K' hK => wp_ixs 30 (.tmp 7) (.tmp 8) a i 1 35 rfl (eval_tmp ((hin 0 7 rfl).trans (congrArg some (show uu 0 = a.v from hd 0 (by decide) (by kernel_rfl))))) (eval_tmp ((hin 1 8 rfl).trans (congrArg some (show uu 1 = .int .i64 (((i : Nat) : Int)) from hd 1 (by decide) (by kernel_rfl))))) (by kernel_rfl) sz35 (fun h => ((hJ.get 1 (f := Mt n (fun _ => n) B a) rfl).sq.nil h).1) ((hJ.get 1 (f := Mt n (fun _ => n) B a) rfl).n ▸ (by omega)) (hK _ _ ⟨hJ, hJb⟩ rfl vzL_same)⟩
  ·
   exact .inr ⟨rfl, fun K' hK => wp_ldm 35 (.tmp 9) a i n (fun _ => n) B rfl (eval_tmp ((hin 2 9 rfl).trans (congrArg some (show uu 2 = (a.at 1 i) from hd 2 (by decide) (by kernel_rfl))))) (hJ.get 1 (f := Mt n (fun _ => n) B a) rfl) (by omega) ag35 (fun s1 hi_s1 => hK _ _ ⟨hJ, hJb⟩ ⟨s1, rfl, hi_s1⟩ vzL_same)⟩
  ·
   exact .inr ⟨rfl, fun K' hK => wp_load1 (v := c.v) 30 (.tmp 3) rfl bC 0 #[c.v] 30 (hJ.get 2 (f := Cf bC #[c.v] 30) rfl).1 (eval_tmp ((hev 3 (by decide)).trans rfl)) ag30 (by kernel_rfl) (hK _ _ ⟨hJ, hJb⟩ rfl vzL_same)⟩
  ·
   exact .inr ⟨rfl, fun K' hK => wp_move (.tmp 1) rfl (eval_tmp ((hev 1 (by decide)).trans rfl)) (hK _ _ ⟨hJ, hJb⟩ rfl vzL_same)⟩
  ·
   exact .inr ⟨rfl, fun K' hK => wp_ixs 30 (.tmp 11) (.tmp 12) c j 1 35 rfl (eval_tmp ((hin 4 11 rfl).trans (congrArg some (show uu 4 = c.v from hd 4 (by decide) (by kernel_rfl))))) (eval_tmp ((hin 5 12 rfl).trans (congrArg some (show uu 5 = .int .i64 (((j : Nat) : Int)) from hd 5 (by decide) (by kernel_rfl))))) (by kernel_rfl) sz35 (fun h => ((hJ.get 0 (f := Mt n (fun _ => n) D c) rfl).sq.nil h).1) ((hJ.get 0 (f := Mt n (fun _ => n) D c) rfl).n ▸ (by omega)) (hK _ _ ⟨hJ, hJb⟩ rfl vzL_same)⟩
  ·
   exact .inr ⟨rfl, fun K' hK => wp_ldm 35 (.tmp 13) c j n (fun _ => n) D rfl (eval_tmp ((hin 6 13 rfl).trans (congrArg some (show uu 6 = (c.at 1 j) from hd 6 (by decide) (by kernel_rfl))))) (hJ.get 0 (f := Mt n (fun _ => n) D c) rfl) (by omega) ag35 (fun s2 hi_s2 => hK _ _ ⟨hJ, hJb⟩ ⟨s2, rfl, hi_s2⟩ vzL_same)⟩
  ·
   obtain ⟨s1, e3, hi_s1⟩ := (show (vls n (B i)) (uu 3) X5 ww from hd 3 (by decide) (by kernel_rfl))
   obtain ⟨s2, e7, hi_s2⟩ := (show (vls n (D j)) (uu 7) X5 ww from hd 7 (by decide) (by kernel_rfl))
   replace hJ := hJ.more (f := Ls n (B i) s1) (Ls.stb _ _ _) hi_s1
   replace hJ := hJ.more (f := Ls n (D j) s2) (Ls.stb _ _ _) hi_s2
   refine .inr ⟨rfl, fun K' hK => ?_⟩
   refine wp_callz (.func 50) #[.tmp 10, .tmp 14] #[35, 35] 50 #[] #[s1.v, s2.v] _ rfl rfl (map2 (eval_tmp ((hin 3 10 rfl).trans (congrArg some e3))) (eval_tmp ((hin 7 14 rfl).trans (congrArg some e7)))) rfl (fun _ _ => rfl) (lInner hJ.nx s1 s2 (hJ.get 1 (f := Ls n (B i) s1) rfl) (hJ.get 0 (f := Ls n (D j) s2) rfl) (by omega) (fun k hk => bB i k (by omega) hk) (fun k hk => bD j k (by omega) hk) (by omega) (by omega)) ?_
   rintro zz ww2 ⟨q3, rfl, ez_q3, hi_q3, hB⟩
   exact ⟨_, rfl, hK _ _ ⟨(hJ.only [Mt n (fun _ => n) D c, Mt n (fun _ => n) B a, Cf bC #[c.v] 30, Cf bA #[a.v] 30] (by simp)).later hB, hJb.trans (hB.mono hJb.size)⟩ ⟨q3, rfl, ez_q3, hi_q3⟩ (vzL_later hVS1 hB)⟩
 clear hM
 intro uu W2 hZ6p hd
 obtain ⟨hZ6, hb1⟩ := hZ6p
 have e_0 : uu 0 = a.v := hd 0 (by decide)
 have e_1 : uu 1 = .int .i64 (((i : Nat) : Int)) := hd 1 (by decide)
 have e_2 : uu 2 = (a.at 1 i) := hd 2 (by decide)
 obtain ⟨s1, e_3, hi_s1⟩ := (show (vls n (B i)) (uu 3) X5 W2 from hd 3 (by decide))
 have e_4 : uu 4 = c.v := hd 4 (by decide)
 have e_5 : uu 5 = .int .i64 (((j : Nat) : Int)) := hd 5 (by decide)
 have e_6 : uu 6 = (c.at 1 j) := hd 6 (by decide)
 obtain ⟨s2, e_7, hi_s2⟩ := (show (vls n (D j)) (uu 7) X5 W2 from hd 7 (by decide))
 obtain ⟨q3, e_8, ez_q3, hi_q3⟩ := (show (vnum (M.sm n (fun k => B i k * D j k))) (uu 8) X5 W2 from hd 8 (by decide))
 clear hd hVS1
 simp only [layS, Act.put, zzC, zzD, zzE, Nat.zero_add, Nat.reduceAdd, List.drop_succ_cons, List.drop_zero, List.drop_nil, e_0, e_1, e_2, e_3, e_4, e_5, e_6, e_7, e_8]
 clear e_0 e_1 e_2 e_3 e_4 e_5 e_6 e_7 e_8
 have hZ7 := hZ6.more (f := Ls n (B i) s1) (Ls.stb _ _ _) hi_s1
 clear hZ6
 clear hi_s1
 have hZ8 := hZ7.more (f := Ls n (D j) s2) (Ls.stb _ _ _) hi_s2
 clear hZ7
 clear hi_s2
 have hZ9 := hZ8.more (f := q3.is) q3.stb hi_q3
 clear hZ8
 clear hi_q3
 go_wp2_with (refine stopz_store 46 (.tmp 6) (.tmp 15) 0 bk1 0 #[.bool false, .slice none 0 0] 46 2 [.bool q3.b, .slice q3.a q3.n q3.c] #[.bool q3.b, .slice q3.a q3.n q3.c] [(bk1, #[.bool q3.b, .slice q3.a q3.n q3.c], 46)] rfl rfl rfl rfl sz46 hZ9 rfl rfl (zzF (by kernel_rfl)) (by kernel_rfl) (by kernel_rfl) (by kernel_rfl) (fun W3 hZ10 => ?_))
 clear hZ9
 unfold Stop
 try simp only [Act.put, zzC, zzD, zzE]
 go_wp2
 exact bodyPost_ret (v := q3.v) (results_cell 0 Tryz.results49 hZ10.es rfl ag46 sz46 (zzF (by kernel_rfl)) rfl (by kernel_rfl)) rfl ⟨q3, rfl, ez_q3, hZ10.out 0 (f := q3.is) rfl, hZ10.below⟩
set_option maxRecDepth 100000 in
set_option maxHeartbeats 12800000 in
theorem lMul {X0 : Nat → Prop} {w : World} (hX : NX X0 w) (a b : Sl) {n e : Nat} {B D : Nat → Nat → Int} (ha : Mt n (fun _ => n) B a X0 w) (hb_ : Mt n (fun _ => n) D b X0 w) (bB : ∀ i k, i < n → k < n → Sz e (B i k)) (bD : ∀ i k, i < n → k < n → Sz e (D i k)) (he_ : e ≤ 1000000) (hn : n ≤ 1000) : Calls Tryz.prog 12 #[a.v, b.v] w (PMX X0 n (fun _ => n) (M.mulm n B D) w) := by
 have hZ0 := zs_start hX
 have hZ1 := hZ0.more (f := Mt n (fun _ => n) B a) (Mt.stb _ _ _ _) ha
 clear hZ0
 have hZ2 := hZ1.more (f := Mt n (fun _ => n) D b) (Mt.stb _ _ _ _) hb_
 clear hZ1
 go_enter Tryz.func12, Tryz.ntmps12
 go_wp2_with (refine stopz_box 30 (.tmp 0) #[a.v] rfl rfl rfl hZ2 (fun bk1 X3 W1 hZ3 => ?_))
 clear hZ2
 unfold Stop
 try simp only [Act.put, zzC, zzD, zzE]
 go_wp2_with fail
 refine (lTurned hZ3.nx b (by omega) (hZ3.get 0 (f := Mt n (fun _ => n) D b) rfl)).mono ?_
 rintro zz W2 ⟨s1, rfl, hi_s1, hB⟩
 have hZ4 := hZ3.later hB
 clear hB
 clear hZ3
 have hZ5 := hZ4.more (f := Mt n (fun _ => n) (fun i j => D j i) s1) (Mt.stb _ _ _ _) hi_s1
 clear hZ4
 clear hi_s1
 go_wp2_with (refine stopz_alloc 30 #[.slice none 0 0] (.slice none 0 0) rfl rfl zv30 rfl hZ5 (fun bk2 X6 W3 hZ6 => ?_))
 clear hZ5
 unfold Stop
 try simp only [Act.put, zzC, zzD, zzE]
 go_wp2_with (refine stopz_store 30 (.tmp 5) (.tmp 7) 0 bk2 0 #[.slice none 0 0] 30 1 [s1.v] #[s1.v] [(bk2, #[s1.v], 30), (bk1, #[a.v], 30)] rfl rfl rfl rfl sz30 hZ6 rfl rfl (zzF (by kernel_rfl)) (by kernel_rfl) (by kernel_rfl) (by kernel_rfl) (fun W4 hZ7 => ?_))
 clear hZ6
 unfold Stop
 try simp only [Act.put, zzC, zzD, zzE]
 have hZ8 := hZ7.release hX
 clear hZ7
 have hZ9 := hZ8.release hX
 clear hZ8
 go_wp2_with (refine stop_op rfl (fun K hK => wp_load1 (v := a.v) 30 (.tmp 2) rfl bk1 0 #[a.v] 30 (hZ9.get 0 (f := Cf bk1 #[a.v] 30) rfl).1 rfl ag30 (by kernel_rfl) (hK _ _ ?_)))
 unfold Stop
 try simp only [Act.put, zzC, zzD, zzE]
 go_wp2_with (refine stop_op rfl (fun K hK => wp_lenq (.tmp 8) 30 35 a rfl (by kernel_rfl) rfl (hZ9.get 4 (f := Mt n (fun _ => n) B a) rfl).n (hK _ _ ?_)))
 unfold Stop
 try simp only [Act.put, zzC, zzD, zzE]
 go_wp2_with (refine stop_op rfl (fun K hK => wp_mkf 49 #[.tmp 2, .tmp 5] #[.pointer (some ⟨bk1, 0, none⟩), .pointer (some ⟨bk2, 0, none⟩)] rfl (map2 rfl rfl) (hK _ _ ?_)))
 unfold Stop
 try simp only [Act.put, zzC, zzD, zzE]
 go_wp2_with fail
 refine (lSquare hZ9.nx n 49 #[.pointer (some ⟨bk1, 0, none⟩), .pointer (some ⟨bk2, 0, none⟩)] (M.mulm n B D) (by omega) ⟨fun _ _ => rfl, fun i j hi hj X' W' hx he hb => (show Calls _ _ #[.int .i64 ((i : Nat) : Int), .int .i64 ((j : Nat) : Int), .pointer (some ⟨bk1, 0, none⟩), .pointer (some ⟨bk2, 0, none⟩)] _ _ from lMul1 (D := fun i j => D j i) hx bk1 bk2 i j hi hj (Cf.stb _ _ _ _ _ _ _ he (hZ9.get 0 (f := Cf bk1 #[a.v] 30) rfl)) (Cf.stb _ _ _ _ _ _ _ he (hZ9.get 1 (f := Cf bk2 #[s1.v] 30) rfl)) (Mt.stb _ _ _ _ _ _ _ _ he (hZ9.get 4 (f := Mt n (fun _ => n) B a) rfl)) (Mt.stb _ _ _ _ _ _ _ _ he (hZ9.get 2 (f := Mt n (fun _ => n) (fun i j => D j i) s1) rfl)) bB (fun i k hi hk => bD k i hk hi) he_ hn)⟩).mono ?_
 rintro zz W5 ⟨s2, rfl, hi_s2, hB⟩
 have hZ10 := hZ9.later hB
 clear hB
 clear hZ9
 have hZ11 := hZ10.more (f := Mt n (fun _ => n) (M.mulm n B D) s2) (Mt.stb _ _ _ _) hi_s2
 clear hZ10
 clear hi_s2
 go_wp2
 go_ret
 exact ⟨s2, rfl, hZ11.out 0 (f := Mt n (fun _ => n) (M.mulm n B D) s2) rfl, hZ11.below⟩
set_option maxRecDepth 100000 in
set_option maxHeartbeats 12800000 in
theorem lApply1 {X0 : Nat → Prop} {w : World} (hX : NX X0 w) {n e : Nat} {a xs : Sl} {B : Nat → Nat → Int} {x : Nat → Int} (bA bx i : Nat) (hi : i < n) (cA : Cf bA #[a.v] 30 X0 w) (cX : Cf bx #[xs.v] 35 X0 w) (ha : Mt n (fun _ => n) B a X0 w) (hxs : Ls n x xs X0 w) (bB : ∀ i k, i < n → k < n → Sz e (B i k)) (bX : ∀ k, k < n → Sz e (x k)) (he_ : e ≤ 1000000) (hn : n ≤ 1000) : Calls Tryz.prog 53 #[.int .i64 ((i : Nat) : Int), .pointer (some ⟨bA, 0, none⟩), .pointer (some ⟨bx, 0, none⟩)] w (PNX X0 (M.mulv n B x i) w) := by
 have hZ0 := zs_start hX
 have hZ1 := hZ0.more (f := Cf bA #[a.v] 30) (Cf.stb _ _ _) cA
 clear hZ0
 have hZ2 := hZ1.more (f := Cf bx #[xs.v] 35) (Cf.stb _ _ _) cX
 clear hZ1
 have hZ3 := hZ2.more (f := Mt n (fun _ => n) B a) (Mt.stb _ _ _ _) ha
 clear hZ2
 have hZ4 := hZ3.more (f := Ls n x xs) (Ls.stb _ _ _) hxs
 clear hZ3
 go_enter Tryz.func53, Tryz.ntmps53
 go_wp2_with (refine stopz_alloc 46 #[.bool false, .slice none 0 0] (.agg #[.bool false, .slice none 0 0]) rfl rfl zv46 rfl hZ4 (fun bk1 X5 W1 hZ5 => ?_))
 clear hZ4
 unfold Stop
 try simp only [Act.put, zzC, zzD, zzE]
 go_wp2
 have hM : Zs w W1.drew X0 X5 [(bk1, #[.bool false, .slice none 0 0], 46)] [Ls n x xs, Mt n (fun _ => n) B a, Cf bx #[xs.v] 35, Cf bA #[a.v] 30] ∧ Below W1.heap.size W1 W1.drew := ⟨hZ5.later (Below.refl _ _).drew, (Below.refl _ _).drew⟩
 clear hZ5
 have hVS1 : ∀ k, k ∈ ([veq (a.v), veq (.int .i64 (((i : Nat) : Int))), veq ((a.at 1 i)), vls n (B i), veq (xs.v), vnum (M.sm n (fun k => B i k * x k))] : List VF) → VSt k := by
  intro k hk
  simp only [List.mem_cons, List.not_mem_nil, or_false] at hk
  rcases hk with rfl | rfl | rfl | rfl | rfl | rfl
  ·
   exact veq_st _
  ·
   exact veq_st _
  ·
   exact veq_st _
  ·
   exact vls_st _ _
  ·
   exact veq_st _
  ·
   exact vnum_st _
 refine wp_region_q 6 [some 5, some 6, some 7, some 8, some 9, some 10] (vzL [veq (a.v), veq (.int .i64 (((i : Nat) : Int))), veq ((a.at 1 i)), vls n (B i), veq (xs.v), vnum (M.sm n (fun k => B i k * x k))] X5) (fun W => Zs w W X0 X5 [(bk1, #[.bool false, .slice none 0 0], 46)] [Ls n x xs, Mt n (fun _ => n) B a, Cf bx #[xs.v] 35, Cf bA #[a.v] 30] ∧ Below W1.heap.size W1 W) (by kernel_rfl) (by kernel_rfl) (by rfl) (by decide) (by rfl) hM ?_ ?_
 ·
  intro i hl hi LL uu ww aa hLi hLc hJ hd hev hin hold
  clear hM
  obtain ⟨hJ, hJb⟩ := hJ
  obtain rfl | rfl | rfl | rfl | rfl | rfl : i = 0 ∨ i = 1 ∨ i = 2 ∨ i = 3 ∨ i = 4 ∨ i = 5 := by omega
  ·
   exact .inr ⟨rfl, fun K' hK => wp_load1 (v := a.v) 30 (.tmp 1) rfl bA 0 #[a.v] 30 (hJ.get 3 (f := Cf bA #[a.v] 30) rfl).1 (eval_tmp ((hev 1 (by decide)).trans rfl)) ag30 (by kernel_rfl) (hK _ _ ⟨hJ, hJb⟩ rfl vzL_same)⟩
  ·
   exact .inr ⟨rfl, fun K' hK => wp_move (.tmp 0) rfl (eval_tmp ((hev 0 (by decide)).trans rfl)) (hK _ _ ⟨hJ, hJb⟩ rfl vzL_same)⟩
  ·
   exact .inr ⟨rfl, fun K' hK => wp_ixs 30 (.tmp 5) (.tmp 6) a i 1 35 rfl (eval_tmp ((hin 0 5 rfl).trans (congrArg some (show uu 0 = a.v from hd 0 (by decide) (by kernel_rfl))))) (eval_tmp ((hin 1 6 rfl).trans (congrArg some (show uu 1 = .int .i64 (((i : Nat) : Int)) from hd 1 (by decide) (by kernel_rfl))))) (by kernel_rfl) sz35 (fun h => ((hJ.get 1 (f := Mt n (fun _ => n) B a) rfl).sq.nil h).1) ((hJ.get 1 (f := Mt n (fun _ => n) B a) rfl).n ▸ (by omega)) (hK _ _ ⟨hJ, hJb⟩ rfl vzL_same)⟩
  ·
   exact .inr ⟨rfl, fun K' hK => wp_ldm 35 (.tmp 7) a i n (fun _ => n) B rfl (eval_tmp ((hin 2 7 rfl).trans (congrArg some (show uu 2 = (a.at 1 i) from hd 2 (by decide) (by kernel_rfl))))) (hJ.get 1 (f := Mt n (fun _ => n) B a) rfl) (by omega) ag35 (fun s1 hi_s1 => hK _ _ ⟨hJ, hJb⟩ ⟨s1, rfl, hi_s1⟩ vzL_same)⟩
  ·
   exact .inr ⟨rfl, fun K' hK => wp_load1 (v := xs.v) 35 (.tmp 2) rfl bx 0 #[xs.v] 35 (hJ.get 2 (f := Cf bx #[xs.v] 35) rfl).1 (eval_tmp ((hev 2 (by decide)).trans rfl)) ag35 (by kernel_rfl) (hK _ _ ⟨hJ, hJb⟩ rfl vzL_same)⟩
  ·
   obtain ⟨s1, e3, hi_s1⟩ := (show (vls n (B i)) (uu 3) X5 ww from hd 3 (by decide) (by kernel_rfl))
   replace hJ := hJ.more (f := Ls n (B i) s1) (Ls.stb _ _ _) hi_s1
   refine .inr ⟨rfl, fun K' hK => ?_⟩
   refine wp_callz (.func 50) #[.tmp 8, .tmp 9] #[35, 35] 50 #[] #[s1.v, xs.v] _ rfl rfl (map2 (eval_tmp ((hin 3 8 rfl).trans (congrArg some e3))) (eval_tmp ((hin 4 9 rfl).trans (congrArg some (show uu 4 = xs.v from hd 4 (by decide) (by kernel_rfl)))))) rfl (fun _ _ => rfl) (lInner hJ.nx s1 xs (hJ.get 0 (f := Ls n (B i) s1) rfl) (hJ.get 1 (f := Ls n x xs) rfl) (by omega) (fun k hk => bB i k (by omega) hk) (fun k hk => bX k hk) (by omega) (by omega)) ?_
   rintro zz ww2 ⟨q2, rfl, ez_q2, hi_q2, hB⟩
   exact ⟨_, rfl, hK _ _ ⟨(hJ.only [Ls n x xs, Mt n (fun _ => n) B a, Cf bx #[xs.v] 35, Cf bA #[a.v] 30] (by simp)).later hB, hJb.trans (hB.mono hJb.size)⟩ ⟨q2, rfl, ez_q2, hi_q2⟩ (vzL_later hVS1 hB)⟩
 clear hM
 intro uu W2 hZ6p hd
 obtain ⟨hZ6, hb1⟩ := hZ6p
 have e_0 : uu 0 = a.v := hd 0 (by decide)
 have e_1 : uu 1 = .int .i64 (((i : Nat) : Int)) := hd 1 (by decide)
 have e_2 : uu 2 = (a.at 1 i) := hd 2 (by decide)
 obtain ⟨s1, e_3, hi_s1⟩ := (show (vls n (B i)) (uu 3) X5 W2 from hd 3 (by decide))
 have e_4 : uu 4 = xs.v := hd 4 (by decide)
 obtain ⟨q2, e_5, ez_q2, hi_q2⟩ := (show (vnum (M.sm n (fun k => B i k * x k))) (uu 5) X5 W2 from hd 5 (by decide))
 clear hd hVS1
 simp only [layS, Act.put, zzC, zzD, zzE, Nat.zero_add, Nat.reduceAdd, List.drop_succ_cons, List.drop_zero, List.drop_nil, e_0, e_1, e_2, e_3, e_4, e_5]
 clear e_0 e_1 e_2 e_3 e_4 e_5
 have hZ7 := hZ6.more (f := Ls n (B i) s1) (Ls.stb _ _ _) hi_s1
 clear hZ6
 clear hi_s1
 have hZ8 := hZ7.more (f := q2.is) q2.stb hi_q2
 clear hZ7
 clear hi_q2
 go_wp2_with (refine stopz_store 46 (.tmp 4) (.tmp 10) 0 bk1 0 #[.bool false, .slice none 0 0] 46 2 [.bool q2.b, .slice q2.a q2.n q2.c] #[.bool q2.b, .slice q2.a q2.n q2.c] [(bk1, #[.bool q2.b, .slice q2.a q2.n q2.c], 46)] rfl rfl rfl rfl sz46 hZ8 rfl rfl (zzF (by kernel_rfl)) (by kernel_rfl) (by kernel_rfl) (by kernel_rfl) (fun W3 hZ9 => ?_))
 clear hZ8
 unfold Stop
 try simp only [Act.put, zzC, zzD, zzE]
 go_wp2
 exact bodyPost_ret (v := q2.v) (results_cell 0 Tryz.results53 hZ9.es rfl ag46 sz46 (zzF (by kernel_rfl)) rfl (by kernel_rfl)) rfl ⟨q2, rfl, ez_q2, hZ9.out 0 (f := q2.is) rfl, hZ9.below⟩
set_option maxRecDepth 100000 in
set_option maxHeartbeats 12800000 in
theorem lApply {X0 : Nat → Prop} {w : World} (hX : NX X0 w) (a xs : Sl) {n e : Nat} {B : Nat → Nat → Int} {x : Nat → Int} (ha : Mt n (fun _ => n) B a X0 w) (hxs : Ls n x xs X0 w) (bB : ∀ i k, i < n → k < n → Sz e (B i k)) (bX : ∀ k, k < n → Sz e (x k)) (he_ : e ≤ 1000000) (hn : n ≤ 1000) : Calls Tryz.prog 15 #[a.v, xs.v] w (PLX X0 n (M.mulv n B x) w) := by
 have hZ0 := zs_start hX
 have hZ1 := hZ0.more (f := Mt n (fun _ => n) B a) (Mt.stb _ _ _ _) ha
 clear hZ0
 have hZ2 := hZ1.more (f := Ls n x xs) (Ls.stb _ _ _) hxs
 clear hZ1
 go_enter Tryz.func15, Tryz.ntmps15
 go_wp2_with (refine stopz_box 30 (.tmp 0) #[a.v] rfl rfl rfl hZ2 (fun bk1 X3 W1 hZ3 => ?_))
 clear hZ2
 unfold Stop
 try simp only [Act.put, zzC, zzD, zzE]
 go_wp2_with (refine stopz_box 35 (.tmp 1) #[xs.v] rfl rfl rfl hZ3 (fun bk2 X4 W2 hZ4 => ?_))
 clear hZ3
 unfold Stop
 try simp only [Act.put, zzC, zzD, zzE]
 have hZ5 := hZ4.release hX
 clear hZ4
 have hZ6 := hZ5.release hX
 clear hZ5
 go_wp2_with (refine stop_op rfl (fun K hK => wp_load1 (v := a.v) 30 (.tmp 2) rfl bk1 0 #[a.v] 30 (hZ6.get 0 (f := Cf bk1 #[a.v] 30) rfl).1 rfl ag30 (by kernel_rfl) (hK _ _ ?_)))
 unfold Stop
 try simp only [Act.put, zzC, zzD, zzE]
 go_wp2_with (refine stop_op rfl (fun K hK => wp_lenq (.tmp 5) 30 35 a rfl (by kernel_rfl) rfl (hZ6.get 3 (f := Mt n (fun _ => n) B a) rfl).n (hK _ _ ?_)))
 unfold Stop
 try simp only [Act.put, zzC, zzD, zzE]
 go_wp2_with (refine stop_op rfl (fun K hK => wp_mkf 53 #[.tmp 2, .tmp 3] #[.pointer (some ⟨bk1, 0, none⟩), .pointer (some ⟨bk2, 0, none⟩)] rfl (map2 rfl rfl) (hK _ _ ?_)))
 unfold Stop
 try simp only [Act.put, zzC, zzD, zzE]
 go_wp2_with fail
 refine (lMadeN hZ6.nx n 53 #[.pointer (some ⟨bk1, 0, none⟩), .pointer (some ⟨bk2, 0, none⟩)] (M.mulv n B x) (by omega) ⟨fun _ _ => rfl, fun i hi X' W' hx he hb => (show Calls _ _ #[.int .i64 ((i : Nat) : Int), .pointer (some ⟨bk1, 0, none⟩), .pointer (some ⟨bk2, 0, none⟩)] _ _ from lApply1 hx bk1 bk2 i hi (Cf.stb _ _ _ _ _ _ _ he (hZ6.get 0 (f := Cf bk1 #[a.v] 30) rfl)) (Cf.stb _ _ _ _ _ _ _ he (hZ6.get 1 (f := Cf bk2 #[xs.v] 35) rfl)) (Mt.stb _ _ _ _ _ _ _ _ he (hZ6.get 3 (f := Mt n (fun _ => n) B a) rfl)) (Ls.stb _ _ _ _ _ _ _ he (hZ6.get 2 (f := Ls n x xs) rfl)) bB bX he_ hn)⟩).mono ?_
 rintro zz W3 ⟨s1, rfl, hi_s1, hB⟩
 have hZ7 := hZ6.later hB
 clear hB
 clear hZ6
 have hZ8 := hZ7.more (f := Ls n (M.mulv n B x) s1) (Ls.stb _ _ _) hi_s1
 clear hZ7
 clear hi_s1
 go_wp2
 go_ret
 exact ⟨s1, rfl, hZ8.out 0 (f := Ls n (M.mulv n B x) s1) rfl, hZ8.below⟩
set_option maxRecDepth 100000 in
set_option maxHeartbeats 12800000 in
theorem lQuad {X0 : Nat → Prop} {w : World} (hX : NX X0 w) (a xs : Sl) {n e : Nat} {B : Nat → Nat → Int} {x : Nat → Int} (ha : Mt n (fun _ => n) B a X0 w) (hxs : Ls n x xs X0 w) (bB : ∀ i k, i < n → k < n → Sz e (B i k)) (bX : ∀ k, k < n → Sz e (x k)) (he_ : e ≤ 400000) (hn : n ≤ 1000) : Calls Tryz.prog 16 #[a.v, xs.v] w (PNX X0 (M.sm n (fun k => x k * M.mulv n B x k)) w) := by
 have hZ0 := zs_start hX
 have hZ1 := hZ0.more (f := Mt n (fun _ => n) B a) (Mt.stb _ _ _ _) ha
 clear hZ0
 have hZ2 := hZ1.more (f := Ls n x xs) (Ls.stb _ _ _) hxs
 clear hZ1
 go_enter Tryz.func16, Tryz.ntmps16
 go_wp2_with (refine stopz_alloc 46 #[.bool false, .slice none 0 0] (.agg #[.bool false, .slice none 0 0]) rfl rfl zv46 rfl hZ2 (fun bk1 X3 W1 hZ3 => ?_))
 clear hZ2
 unfold Stop
 try simp only [Act.put, zzC, zzD, zzE]
 go_wp2_with fail
 refine (lApply hZ3.nx a xs (hZ3.get 1 (f := Mt n (fun _ => n) B a) rfl) (hZ3.get 0 (f := Ls n x xs) rfl) (fun i k hi hk => (fun k hk => bB i k (by omega) hk) k hk) (fun k hk => bX k hk) (by omega) (by omega)).mono ?_
 rintro zz W2 ⟨s1, rfl, hi_s1, hB⟩
 have hZ4 := hZ3.later hB
 clear hB
 clear hZ3
 have hZ5 := hZ4.more (f := Ls n (M.mulv n B x) s1) (Ls.stb _ _ _) hi_s1
 clear hZ4
 clear hi_s1
 go_wp2_with fail
 refine (lInner hZ5.nx xs s1 (hZ5.get 1 (f := Ls n x xs) rfl) (hZ5.get 0 (f := Ls n (M.mulv n B x) s1) rfl) (by omega) (fun k hk => (bX k hk).mono (by omega)) (fun i hi => sm_sz (fun k hk => Sz.mul (bB i k hi hk) (bX k hk))) (by omega) (by omega)).mono ?_
 rintro zz W3 ⟨q2, rfl, ez_q2, hi_q2, hB⟩
 have hZ6 := hZ5.later hB
 clear hB
 clear hZ5
 have hZ7 := hZ6.more (f := q2.is) q2.stb hi_q2
 clear hZ6
 clear hi_q2
 go_wp2_with (refine stopz_store 46 (.tmp 4) (.tmp 9) 0 bk1 0 #[.bool false, .slice none 0 0] 46 2 [.bool q2.b, .slice q2.a q2.n q2.c] #[.bool q2.b, .slice q2.a q2.n q2.c] [(bk1, #[.bool q2.b, .slice q2.a q2.n q2.c], 46)] rfl rfl rfl rfl sz46 hZ7 rfl rfl (zzF (by kernel_rfl)) (by kernel_rfl) (by kernel_rfl) (by kernel_rfl) (fun W4 hZ8 => ?_))
 clear hZ7
 unfold Stop
 try simp only [Act.put, zzC, zzD, zzE]
 go_wp2
 exact bodyPost_ret (v := q2.v) (results_cell 0 Tryz.results16 hZ8.es rfl ag46 sz46 (zzF (by kernel_rfl)) rfl (by kernel_rfl)) rfl ⟨q2, rfl, ez_q2, hZ8.out 0 (f := q2.is) rfl, hZ8.below⟩
end Go.Proofs.YtolpfibihialkaaGreatDoor
