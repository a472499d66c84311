/- Parts of the proof. -/
import Derived.Test.YtolpfibihialkaaGreatDoorGf0
import Derived.Test.YtolpfibihialkaaGreatDoorGf30
import Derived.Test.YtolpfibihialkaaGreatDoorGf21
import Derived.Test.YtolpfibihialkaaGreatDoorGf28
import Derived.Test.YtolpfibihialkaaGreatDoorGf24
/- The document's Dot, Apply, Turned, Mul, Quad, walked. No statement of the seat is proved here. -/
namespace Go.Proofs.YtolpfibihialkaaGreatDoor
open Go Go.RowKit
set_option maxRecDepth 100000 in
set_option maxHeartbeats 12800000 in
theorem dDot {X0 : Nat → Prop} {w : World} (hX : NX X0 w) (xs ys : Sl) {n e : Nat} {x y : Nat → Int} (hx : Lr n x xs X0 w) (hy : Lr n y ys X0 w) (bx : ∀ k, k < n → Sz e (x k)) (by_ : ∀ k, k < n → Sz e (y k)) (hn : n ≤ 1000) (he : e ≤ 400000) : Calls Tryz.prog 60 #[xs.v, ys.v] w (PNXr X0 (M.sm n (fun t => x t * y t)) w) := by
 have hZ0 := zs_start hX
 have hZ1 := hZ0.more (f := Lr n y ys) (Lr.stb _ _ _) hy
 clear hZ0
 have hZ2 := hZ1.more (f := Lr n x xs) (Lr.stb _ _ _) hx
 clear hZ1
 go_enter Tryz.func60, Tryz.ntmps60
 go_wp2_with (refine stopz_alloc 56 #[.bool false, .slice none 0 0] (.agg #[.bool false, .slice none 0 0]) rfl rfl zv56 rfl hZ2 (fun bk1 X3 W1 hZ3 => ?_))
 clear hZ2
 unfold Stop
 try simp only [Act.put, zzC, zzD, zzE]
 go_wp2_with fail
 refine (zOfr hZ3.nx (by omega) (by omega)).mono ?_
 rintro zz W2 ⟨q1, rfl, ez_q1, hi_q1, hB⟩
 have hZ4 := hZ3.later hB
 clear hB
 clear hZ3
 have hZ5 := hZ4.more (f := q1.ir) q1.stbr hi_q1
 clear hZ4
 clear hi_q1
 go_wp2_with (refine stopz_alloc 56 #[.bool false, .slice none 0 0] (.agg #[.bool false, .slice none 0 0]) rfl rfl zv56 rfl hZ5 (fun bk2 X6 W3 hZ6 => ?_))
 clear hZ5
 unfold Stop
 try simp only [Act.put, zzC, zzD, zzE]
 go_wp2_with (refine stopz_store 56 (.tmp 5) (.tmp 7) 0 bk2 0 #[.bool false, .slice none 0 0] 56 2 [.bool q1.b, .slice q1.a q1.n q1.c] #[.bool q1.b, .slice q1.a q1.n q1.c] [(bk2, #[.bool q1.b, .slice q1.a q1.n q1.c], 56), (bk1, #[.bool false, .slice none 0 0], 56)] rfl rfl rfl rfl sz56 hZ6 rfl rfl (zzF (by kernel_rfl)) (by kernel_rfl) (by kernel_rfl) (by kernel_rfl) (fun W4 hZ7 => ?_))
 clear hZ6
 unfold Stop
 try simp only [Act.put, zzC, zzD, zzE]
 have hZ8 := hZ7.only [q1.ir, Lr n x xs, Lr n y ys] (by simp)
 clear hZ7
 go_wp2
 go_loopw [6] (fun kv wr => ∃ (kk : Nat) (p : NL) (X : Nat → Prop), kk ≤ n ∧ kv = .int .i64 ((kk : Nat) : Int) ∧ p.z = M.sm kk (fun t => x t * y t) ∧ Zs w wr X0 X [(bk2, #[.bool p.b, .slice p.a p.n p.c], 56), (bk1, #[.bool false, .slice none 0 0], 56)] [p.ir, Lr n x xs, Lr n y ys]) (fun iv _ => n - (intOf iv).toNat)
 case atStart => exact ⟨0, q1, _, by omega, rfl, ez_q1, hZ8⟩
 case round =>
  clear hZ8
  obtain ⟨kk, p, X, hk, rfl, ez_p, hZ⟩ := hrel
  by_cases hlt : kk < n
  ·
   go_wp2_with (refine stop_op rfl (fun K hK => wp_lenq (.tmp 9) 36 56 xs rfl (by kernel_rfl) rfl (hZ.get 1 (f := Lr n x xs) rfl).n (hK _ _ ?_)))
   unfold Stop
   try simp only [Act.put, zzC, zzD, zzE]
   go_wp2_with (refine stop_op rfl (fun K hK => wp_lssi (.tmp 8) (.tmp 10) rfl rfl rfl (r := true) (decide_eq_true (by omega)) (hK _ _ ?_)))
   unfold Stop
   try simp only [Act.put, zzC, zzD, zzE]
   go_wp2
   have hM : Zs w wr.drew X0 X [(bk2, #[.bool p.b, .slice p.a p.n p.c], 56), (bk1, #[.bool false, .slice none 0 0], 56)] [p.ir, Lr n x xs, Lr n y ys] ∧ Below wr.heap.size wr wr.drew := ⟨hZ.later (Below.refl _ _).drew, (Below.refl _ _).drew⟩
   clear hZ
   have hVS5 : ∀ k, k ∈ ([veq (p.v), veq (xs.v), veq (.int .i64 (((kk : Nat) : Int))), veq ((xs.at 2 kk)), vnumr (x kk), veq (ys.v), veq (.int .i64 (((kk : Nat) : Int))), veq ((ys.at 2 kk)), vnumr (y kk), vnumr ((x kk) * (y kk)), vnumr ((M.sm kk (fun t => x t * y t)) + ((x kk) * (y kk)))] : List VF) → VSt k := by
    intro k hk
    simp only [List.mem_cons, List.not_mem_nil, or_false] at hk
    rcases hk with rfl | rfl | rfl | rfl | rfl | rfl | rfl | rfl | rfl | rfl | rfl
    ·
     exact veq_st _
    ·
     exact veq_st _
    ·
     exact veq_st _
    ·
     exact veq_st _
    ·
     exact vnum_str _
    ·
     exact veq_st _
    ·
     exact veq_st _
    ·
     exact veq_st _
    ·
     exact vnum_str _
    ·
     exact vnum_str _
    ·
     exact vnum_str _
   refine wp_region_q 11 [some 14, some 15, some 16, some 17, some 18, some 19, some 20, some 21, some 22, some 23, some 24] (vzL [veq (p.v), veq (xs.v), veq (.int .i64 (((kk : Nat) : Int))), veq ((xs.at 2 kk)), vnumr (x kk), veq (ys.v), veq (.int .i64 (((kk : Nat) : Int))), veq ((ys.at 2 kk)), vnumr (y kk), vnumr ((x kk) * (y kk)), vnumr ((M.sm kk (fun t => x t * y t)) + ((x kk) * (y kk)))] X) (fun W => Zs w W X0 X [(bk2, #[.bool p.b, .slice p.a p.n p.c], 56), (bk1, #[.bool false, .slice none 0 0], 56)] [p.ir, Lr n x xs, Lr n y ys] ∧ Below wr.heap.size wr W) (by kernel_rfl) (by kernel_rfl) (by rfl) (by decide) (by rfl) hM ?_ ?_
   ·
    intro i hl hi LL uu ww aa hLi hLc hJ hd hev hin hold
    clear hM
    obtain ⟨hJ, hJb⟩ := hJ
    obtain rfl | rfl | rfl | rfl | rfl | rfl | rfl | rfl | rfl | rfl | rfl : i = 0 ∨ i = 1 ∨ i = 2 ∨ i = 3 ∨ i = 4 ∨ i = 5 ∨ i = 6 ∨ i = 7 ∨ i = 8 ∨ i = 9 ∨ i = 10 := by omega
    ·
     exact .inr ⟨rfl, fun K' hK => wp_load 56 (.tmp 5) rfl bk2 0 2 #[.bool p.b, .slice p.a p.n p.c] #[.bool p.b, .slice p.a p.n p.c] 56 (hJ.es.at' _ (zzG (i := 0) rfl)) (eval_tmp ((hev 5 (by decide)).trans rfl)) ag56 sz56 (zzF (by kernel_rfl)) (by kernel_rfl) (hK _ _ ⟨hJ, hJb⟩ rfl vzL_same)⟩
    ·
     exact .inr ⟨rfl, fun K' hK => wp_move (.tmp 0) rfl (eval_tmp ((hev 0 (by decide)).trans rfl)) (hK _ _ ⟨hJ, hJb⟩ rfl vzL_same)⟩
    ·
     exact .inr ⟨rfl, fun K' hK => wp_move (.tmp 6) rfl (eval_tmp ((hev 6 (by decide)).trans rfl)) (hK _ _ ⟨hJ, hJb⟩ rfl vzL_same)⟩
    ·
     exact .inr ⟨rfl, fun K' hK => wp_ixs 36 (.tmp 15) (.tmp 16) xs kk 2 56 rfl (eval_tmp ((hin 1 15 rfl).trans (congrArg some (show uu 1 = xs.v from hd 1 (by decide) (by kernel_rfl))))) (eval_tmp ((hin 2 16 rfl).trans (congrArg some (show uu 2 = .int .i64 (((kk : Nat) : Int)) from hd 2 (by decide) (by kernel_rfl))))) (by kernel_rfl) sz56 (fun h => ((hJ.get 1 (f := Lr n x xs) rfl).sq.nil h).1) ((hJ.get 1 (f := Lr n x xs) rfl).n ▸ (by omega)) (hK _ _ ⟨hJ, hJb⟩ rfl vzL_same)⟩
    ·
     exact .inr ⟨rfl, fun K' hK => wp_ldnr 56 (.tmp 17) xs kk n x rfl (eval_tmp ((hin 3 17 rfl).trans (congrArg some (show uu 3 = (xs.at 2 kk) from hd 3 (by decide) (by kernel_rfl))))) (hJ.get 1 (f := Lr n x xs) rfl) (by omega) ag56 sz56 (fun q2 ez_q2 hi_q2 => hK _ _ ⟨hJ, hJb⟩ ⟨q2, rfl, ez_q2, hi_q2⟩ vzL_same)⟩
    ·
     exact .inr ⟨rfl, fun K' hK => wp_move (.tmp 1) rfl (eval_tmp ((hev 1 (by decide)).trans rfl)) (hK _ _ ⟨hJ, hJb⟩ rfl vzL_same)⟩
    ·
     exact .inr ⟨rfl, fun K' hK => wp_move (.tmp 6) rfl (eval_tmp ((hev 6 (by decide)).trans rfl)) (hK _ _ ⟨hJ, hJb⟩ rfl vzL_same)⟩
    ·
     exact .inr ⟨rfl, fun K' hK => wp_ixs 36 (.tmp 19) (.tmp 20) ys kk 2 56 rfl (eval_tmp ((hin 5 19 rfl).trans (congrArg some (show uu 5 = ys.v from hd 5 (by decide) (by kernel_rfl))))) (eval_tmp ((hin 6 20 rfl).trans (congrArg some (show uu 6 = .int .i64 (((kk : Nat) : Int)) from hd 6 (by decide) (by kernel_rfl))))) (by kernel_rfl) sz56 (fun h => ((hJ.get 2 (f := Lr n y ys) rfl).sq.nil h).1) ((hJ.get 2 (f := Lr n y ys) rfl).n ▸ (by omega)) (hK _ _ ⟨hJ, hJb⟩ rfl vzL_same)⟩
    ·
     exact .inr ⟨rfl, fun K' hK => wp_ldnr 56 (.tmp 21) ys kk n y rfl (eval_tmp ((hin 7 21 rfl).trans (congrArg some (show uu 7 = (ys.at 2 kk) from hd 7 (by decide) (by kernel_rfl))))) (hJ.get 2 (f := Lr n y ys) rfl) (by omega) ag56 sz56 (fun q3 ez_q3 hi_q3 => hK _ _ ⟨hJ, hJb⟩ ⟨q3, rfl, ez_q3, hi_q3⟩ vzL_same)⟩
    ·
     obtain ⟨q2, e4, ez_q2, hi_q2⟩ := (show (vnumr (x kk)) (uu 4) X ww from hd 4 (by decide) (by kernel_rfl))
     obtain ⟨q3, e8, ez_q3, hi_q3⟩ := (show (vnumr (y kk)) (uu 8) X ww from hd 8 (by decide) (by kernel_rfl))
     replace hJ := hJ.more (f := q2.ir) q2.stbr hi_q2
     replace hJ := hJ.more (f := q3.ir) q3.stbr hi_q3
     refine .inr ⟨rfl, fun K' hK => ?_⟩
     refine wp_callz (.func 35) #[.tmp 18, .tmp 22] #[56, 56] 35 #[] #[q2.v, q3.v] _ rfl rfl (map2 (eval_tmp ((hin 4 18 rfl).trans (congrArg some e4))) (eval_tmp ((hin 8 22 rfl).trans (congrArg some e8)))) rfl (fun _ _ => rfl) (zMulr hJ.nx (hJ.get 1 (f := q2.ir) rfl) (hJ.get 0 (f := q3.ir) rfl) ez_q2 ez_q3 (bx kk (by omega)) (by_ kk (by omega)) (by omega) (by omega)) ?_
     rintro zz ww2 ⟨q4, rfl, ez_q4, hi_q4, hB⟩
     exact ⟨_, rfl, hK _ _ ⟨(hJ.only [p.ir, Lr n x xs, Lr n y ys] (by simp)).later hB, hJb.trans (hB.mono hJb.size)⟩ ⟨q4, rfl, ez_q4, hi_q4⟩ (vzL_later hVS5 hB)⟩
    ·
     obtain ⟨q4, e9, ez_q4, hi_q4⟩ := (show (vnumr ((x kk) * (y kk))) (uu 9) X ww from hd 9 (by decide) (by kernel_rfl))
     replace hJ := hJ.more (f := q4.ir) q4.stbr hi_q4
     refine .inr ⟨rfl, fun K' hK => ?_⟩
     refine wp_callz (.func 36) #[.tmp 14, .tmp 23] #[56, 56] 36 #[] #[p.v, q4.v] _ rfl rfl (map2 (eval_tmp ((hin 0 14 rfl).trans (congrArg some (show uu 0 = p.v from hd 0 (by decide) (by kernel_rfl))))) (eval_tmp ((hin 9 23 rfl).trans (congrArg some e9)))) rfl (fun _ _ => rfl) (zAddr hJ.nx (hJ.get 1 (f := p.ir) rfl) (hJ.get 0 (f := q4.ir) rfl) ez_p ez_q4 (sm_sz (fun t ht => Sz.mul (bx t (by omega)) (by_ t (by omega)))) (Sz.mul (bx kk (by omega)) (by_ kk (by omega))) (by omega) (by omega)) ?_
     rintro zz ww2 ⟨q5, rfl, ez_q5, hi_q5, hB⟩
     exact ⟨_, rfl, hK _ _ ⟨(hJ.only [p.ir, Lr n x xs, Lr n y ys] (by simp)).later hB, hJb.trans (hB.mono hJb.size)⟩ ⟨q5, rfl, ez_q5, hi_q5⟩ (vzL_later hVS5 hB)⟩
   clear hM
   intro uu W5 hZ9p hd
   obtain ⟨hZ9, hb5⟩ := hZ9p
   have e_0 : uu 0 = p.v := hd 0 (by decide)
   have e_1 : uu 1 = xs.v := hd 1 (by decide)
   have e_2 : uu 2 = .int .i64 (((kk : Nat) : Int)) := hd 2 (by decide)
   have e_3 : uu 3 = (xs.at 2 kk) := hd 3 (by decide)
   obtain ⟨q2, e_4, ez_q2, hi_q2⟩ := (show (vnumr (x kk)) (uu 4) X W5 from hd 4 (by decide))
   have e_5 : uu 5 = ys.v := hd 5 (by decide)
   have e_6 : uu 6 = .int .i64 (((kk : Nat) : Int)) := hd 6 (by decide)
   have e_7 : uu 7 = (ys.at 2 kk) := hd 7 (by decide)
   obtain ⟨q3, e_8, ez_q3, hi_q3⟩ := (show (vnumr (y kk)) (uu 8) X W5 from hd 8 (by decide))
   obtain ⟨q4, e_9, ez_q4, hi_q4⟩ := (show (vnumr ((x kk) * (y kk))) (uu 9) X W5 from hd 9 (by decide))
   obtain ⟨q5, e_10, ez_q5, hi_q5⟩ := (show (vnumr ((M.sm kk (fun t => x t * y t)) + ((x kk) * (y kk)))) (uu 10) X W5 from hd 10 (by decide))
   clear hd hVS5
   simp only [layS, Act.put, zzC, zzD, zzE, Nat.zero_add, Nat.reduceAdd, List.drop_succ_cons, List.drop_zero, List.drop_nil, e_0, e_1, e_2, e_3, e_4, e_5, e_6, e_7, e_8, e_9, e_10]
   clear e_0 e_1 e_2 e_3 e_4 e_5 e_6 e_7 e_8 e_9 e_10
   have hZ10 := hZ9.more (f := q2.ir) q2.stbr hi_q2
   clear hZ9
   clear hi_q2
   have hZ11 := hZ10.more (f := q3.ir) q3.stbr hi_q3
   clear hZ10
   clear hi_q3
   have hZ12 := hZ11.more (f := q4.ir) q4.stbr hi_q4
   clear hZ11
   clear hi_q4
   have hZ13 := hZ12.more (f := q5.ir) q5.stbr hi_q5
   clear hZ12
   clear hi_q5
   go_wp2_with (refine stopz_store 56 (.tmp 5) (.tmp 24) 0 bk2 0 #[.bool p.b, .slice p.a p.n p.c] 56 2 [.bool q5.b, .slice q5.a q5.n q5.c] #[.bool q5.b, .slice q5.a q5.n q5.c] [(bk2, #[.bool q5.b, .slice q5.a q5.n q5.c], 56), (bk1, #[.bool false, .slice none 0 0], 56)] rfl rfl rfl rfl sz56 hZ13 rfl rfl (zzF (by kernel_rfl)) (by kernel_rfl) (by kernel_rfl) (by kernel_rfl) (fun W6 hZ14 => ?_))
   clear hZ13
   unfold Stop
   try simp only [Act.put, zzC, zzD, zzE]
   have hZ15 := hZ14.only [q5.ir, Lr n x xs, Lr n y ys] (by simp)
   clear hZ14
   go_wp2_with (refine stop_op rfl (fun K hK => wp_addi (.tmp 12) (.const (.int .i64 1)) rfl rfl rfl (C := ((kk + 1 : Nat) : Int)) (by omega) (by omega) (by omega) (hK _ _ ?_)))
   unfold Stop
   try simp only [Act.put, zzC, zzD, zzE]
   go_wp2
   go_roundw
   case rel => exact ⟨kk + 1, q5, _, by omega, by go_num, ez_q5, hZ15⟩
   case measure => simp [intOf]; omega
  ·
   obtain rfl : n = kk := by omega
   go_wp2_with (refine stop_op rfl (fun K hK => wp_lenq (.tmp 9) 36 56 xs rfl (by kernel_rfl) rfl (hZ.get 1 (f := Lr n x xs) rfl).n (hK _ _ ?_)))
   unfold Stop
   try simp only [Act.put, zzC, zzD, zzE]
   go_wp2_with (refine stop_op rfl (fun K hK => wp_lssi (.tmp 8) (.tmp 10) rfl rfl rfl (r := false) (decide_eq_false (Int.lt_irrefl _)) (hK _ _ ?_)))
   unfold Stop
   try simp only [Act.put, zzC, zzD, zzE]
   go_wp2_with (refine stop_op rfl (fun K hK => wp_load 56 (.tmp 5) rfl bk2 0 2 #[.bool p.b, .slice p.a p.n p.c] #[.bool p.b, .slice p.a p.n p.c] 56 (hZ.es.at' _ (zzG (i := 0) rfl)) rfl ag56 sz56 (zzF (by kernel_rfl)) (by kernel_rfl) (hK _ _ ?_)))
   unfold Stop
   try simp only [Act.put, zzC, zzD, zzE]
   go_wp2_with (refine stopz_store 56 (.tmp 4) (.tmp 25) 1 bk1 0 #[.bool false, .slice none 0 0] 56 2 [.bool p.b, .slice p.a p.n p.c] #[.bool p.b, .slice p.a p.n p.c] [(bk2, #[.bool p.b, .slice p.a p.n p.c], 56), (bk1, #[.bool p.b, .slice p.a p.n p.c], 56)] rfl rfl rfl rfl sz56 hZ rfl rfl (zzF (by kernel_rfl)) (by kernel_rfl) (by kernel_rfl) (by kernel_rfl) (fun W7 hZ16 => ?_))
   clear hZ
   unfold Stop
   try simp only [Act.put, zzC, zzD, zzE]
   go_wp2
   exact bodyPost_ret (v := p.v) (results_cell 1 Tryz.results60 hZ16.es rfl ag56 sz56 (zzF (by kernel_rfl)) rfl (by kernel_rfl)) rfl ⟨p, rfl, ez_p, hZ16.out 0 (f := p.ir) rfl, hZ16.below⟩
set_option maxRecDepth 100000 in
set_option maxHeartbeats 12800000 in
theorem dApply {X0 : Nat → Prop} {w : World} (hX : NX X0 w) (a xs : Sl) {n e : Nat} {B : Nat → Nat → Int} {x : Nat → Int} (ha : Mr n (fun _ => n) B a X0 w) (hx : Lr n x xs X0 w) (bB : ∀ i j, i < n → j < n → Sz e (B i j)) (bx : ∀ k, k < n → Sz e (x k)) (hn : n ≤ 1000) (he : e ≤ 400000) : Calls Tryz.prog 23 #[a.v, xs.v] w (PLXr X0 n (M.mulv n B x) w) := by
 have hZ0 := zs_start hX
 have hZ1 := hZ0.more (f := Lr n x xs) (Lr.stb _ _ _) hx
 clear hZ0
 have hZ2 := hZ1.more (f := Mr n (fun _ => n) B a) (Mr.stb _ _ _ _) ha
 clear hZ1
 go_enter Tryz.func23, Tryz.ntmps23
 have hZ3 := hZ2.only [Mr n (fun _ => n) B a, Lr n x xs] (by simp)
 clear hZ2
 go_wp2
 go_loopw [5, 6] (fun ov iv wr => ∃ (i : Nat) (so : Sl) (Co : Array Value) (X : Nat → Prop), i ≤ n ∧ iv = .int .i64 ((i : Nat) : Int) ∧ ov = so.v ∧ so.n = i ∧ Wr 2 so Co ∧ Zs w wr X0 X ([] ++ owl so Co 56) [Fl 2 (ENr (M.mulv n B x)) i Co, Mr n (fun _ => n) B a, Lr n x xs]) (fun _ iv _ => n - (intOf iv).toNat)
 case atStart => exact ⟨0, slz, #[], _, by omega, rfl, rfl, rfl, wr_slz 2, by simpa [owl, slz] using (hZ3.more (f := Fl 2 (ENr (M.mulv n B x)) 0 #[]) (Fl.stb (ENr.stb _) _ _) (fl_zero 2 (ENr (M.mulv n B x)) #[] _ _))⟩
 case round =>
  clear hZ3
  obtain ⟨i, so, Co, X, hi, rfl, rfl, hn_so, hw_so, hZ⟩ := hrel
  by_cases hlt : i < n
  ·
   go_wp2_with (refine stop_op rfl (fun K hK => wp_lenq (.tmp 8) 32 36 a rfl (by kernel_rfl) rfl (hZ.get 1 (f := Mr n (fun _ => n) B a) rfl).n (hK _ _ ?_)))
   unfold Stop
   try simp only [Act.put, zzC, zzD, zzE]
   go_wp2_with (refine stop_op rfl (fun K hK => wp_lssi (.tmp 7) (.tmp 9) rfl rfl rfl (r := true) (decide_eq_true (by omega)) (hK _ _ ?_)))
   unfold Stop
   try simp only [Act.put, zzC, zzD, zzE]
   go_wp2_with (refine stop_op rfl (fun K hK => wp_ixs 32 (.tmp 14) (.tmp 15) a i 1 36 rfl rfl rfl (by kernel_rfl) sz36 (fun h => ((hZ.get 1 (f := Mr n (fun _ => n) B a) rfl).sq.nil h).1) ((hZ.get 1 (f := Mr n (fun _ => n) B a) rfl).n ▸ (by omega)) (hK _ _ ?_)))
   unfold Stop
   try simp only [Act.put, zzC, zzD, zzE]
   go_wp2_with (refine stop_op rfl (fun K hK => wp_ldmr 36 (.tmp 16) a i n (fun _ => n) B rfl rfl (hZ.get 1 (f := Mr n (fun _ => n) B a) rfl) (by omega) ag36 (fun s1 hi_s1 => hK _ _ ?_)))
   unfold Stop
   try simp only [Act.put, zzC, zzD, zzE]
   have hZ4 := hZ.more (f := Lr n (B i) s1) (Lr.stb _ _ _) hi_s1
   clear hZ
   clear hi_s1
   go_wp2_with fail
   refine (dDot hZ4.nx s1 xs (e := e) (hZ4.get 0 (f := Lr n (B i) s1) rfl) (hZ4.get 3 (f := Lr n x xs) rfl) (fun t ht => bB i t (by omega) ht) bx (by omega) (by omega)).mono ?_
   rintro zz W1 ⟨q2, rfl, ez_q2, hi_q2, hB⟩
   have hZ5 := hZ4.later hB
   clear hB
   clear hZ4
   have hZ6 := hZ5.more (f := q2.ir) q2.stbr hi_q2
   clear hZ5
   clear hi_q2
   go_wp2_with (refine stop_op rfl (fun K hK => wp_bs2 ei36 (.tmp 19) rfl rfl (hK _ _ ?_)))
   unfold Stop
   try simp only [Act.put, zzC, zzD, zzE]
   have hZ7 := hZ6.later (below_new _ (.cells #[.bool q2.b, .slice q2.a q2.n q2.c] 56))
   clear hZ6
   have hZ8y := hZ7.perm List.perm_append_comm
   go_wp2_with (refine stop_op rfl (fun K hK => wp_app ei36 (.tmp 13) (.tmp 20) rfl (s := so) rfl ⟨W1.heap.size, 0, none⟩ 1 rfl hw_so (by rw [hn_so]; omega) hZ8y [.bool q2.b, .slice q2.a q2.n q2.c] rfl (cell_two _ (.bool q2.b) (.slice q2.a q2.n q2.c) _) (fun u hu => by simp only [List.mem_cons, List.not_mem_nil, or_false] at hu; rcases hu with rfl | rfl <;> rfl) (fun o3 C3 X8 W2 hn_o3 hw_o3 ho_C3 hg_C3 hZ8x => hK _ _ ?_)))
   unfold Stop
   try simp only [Act.put, zzC, zzD, zzE]
   clear hZ8y
   rw [hn_so] at hn_o3 ho_C3 hg_C3
   have hZ8 := hZ8x.perm List.perm_append_comm
   clear hZ8x
   clear hZ7
   have hZ9s : Fl 2 (ENr (M.mulv n B x)) (i + 1) C3 X8 W2 := Fl.snoc (C := Co) (hZ8.get 2 (f := Fl 2 (ENr (M.mulv n B x)) i Co) rfl) (cs := [.bool q2.b, .slice q2.a q2.n q2.c]) rfl ho_C3 hg_C3 ⟨q2, ez_q2, (hZ8.get 0 (f := q2.ir) rfl), rfl⟩
   have hZ9 := (hZ8.more (Fl.stb (ENr.stb _) _ _) hZ9s).only [Fl 2 (ENr (M.mulv n B x)) (i + 1) C3, Mr n (fun _ => n) B a, Lr n x xs] (by simp)
   clear hZ8 hZ9s
   go_wp2_with (refine stop_op rfl (fun K hK => wp_addi (.tmp 11) (.const (.int .i64 1)) rfl rfl rfl (C := ((i + 1 : Nat) : Int)) (by omega) (by omega) (by omega) (hK _ _ ?_)))
   unfold Stop
   try simp only [Act.put, zzC, zzD, zzE]
   go_wp2
   go_roundw
   case rel => exact ⟨i + 1, o3, C3, _, by omega, by go_num, rfl, hn_o3, hw_o3, hZ9⟩
   case measure => simp [intOf]; omega
  ·
   obtain rfl : n = i := by omega
   go_wp2_with (refine stop_op rfl (fun K hK => wp_lenq (.tmp 8) 32 36 a rfl (by kernel_rfl) rfl (hZ.get 1 (f := Mr n (fun _ => n) B a) rfl).n (hK _ _ ?_)))
   unfold Stop
   try simp only [Act.put, zzC, zzD, zzE]
   go_wp2_with (refine stop_op rfl (fun K hK => wp_lssi (.tmp 7) (.tmp 9) rfl rfl rfl (r := false) (decide_eq_false (Int.lt_irrefl _)) (hK _ _ ?_)))
   unfold Stop
   try simp only [Act.put, zzC, zzD, zzE]
   go_wp2
   go_ret
   exact ⟨so, rfl, ⟨hn_so, hZ.sq hX (ENr.stb _) hw_so (T := 56) (fun p hp => hp) (hn_so ▸ hZ.get 0 (f := Fl 2 (ENr (M.mulv n B x)) n Co) rfl)⟩, hZ.below⟩
set_option maxRecDepth 100000 in
set_option maxHeartbeats 12800000 in
theorem dTurned {X0 : Nat → Prop} {w : World} (hX : NX X0 w) (a : Sl) {n : Nat} {B : Nat → Nat → Int} (ha : Mr n (fun _ => n) B a X0 w) (hn : n ≤ 1000) : Calls Tryz.prog 21 #[a.v] w (PMXr X0 n (fun _ => n) (fun i j => B j i) w) := by
 have hZ0 := zs_start hX
 have hZ1 := hZ0.more (f := Mr n (fun _ => n) B a) (Mr.stb _ _ _ _) ha
 clear hZ0
 go_enter Tryz.func21, Tryz.ntmps21
 go_wp2
 go_loopw [3, 4] (fun ov iv wr => ∃ (i : Nat) (so : Sl) (Co : Array Value) (X : Nat → Prop), i ≤ n ∧ iv = .int .i64 ((i : Nat) : Int) ∧ ov = so.v ∧ so.n = i ∧ Wr 1 so Co ∧ Zs w wr X0 X ([] ++ owl so Co 36) [Fl 1 (ERr (fun _ => n) (fun i j => B j i)) i Co, Mr n (fun _ => n) B a]) (fun _ iv _ => n - (intOf iv).toNat)
 case atStart => exact ⟨0, slz, #[], _, by omega, rfl, rfl, rfl, wr_slz 1, by simpa [owl, slz] using (hZ1.more (f := Fl 1 (ERr (fun _ => n) (fun i j => B j i)) 0 #[]) (Fl.stb (ERr.stb _ _) _ _) (fl_zero 1 (ERr (fun _ => n) (fun i j => B j i)) #[] _ _))⟩
 case round =>
  clear hZ1
  obtain ⟨i, so, Co, X, hi, rfl, rfl, hn_so, hw_so, hZ⟩ := hrel
  by_cases hlt : i < n
  ·
   go_wp2_with (refine stop_op rfl (fun K hK => wp_lenq (.tmp 8) 32 36 a rfl (by kernel_rfl) rfl (hZ.get 1 (f := Mr n (fun _ => n) B a) rfl).n (hK _ _ ?_)))
   unfold Stop
   try simp only [Act.put, zzC, zzD, zzE]
   go_wp2_with (refine stop_op rfl (fun K hK => wp_lssi (.tmp 7) (.tmp 9) rfl rfl rfl (r := true) (decide_eq_true (by omega)) (hK _ _ ?_)))
   unfold Stop
   try simp only [Act.put, zzC, zzD, zzE]
   go_wp2
   obtain ⟨wo, rfl⟩ : ∃ wo : World, wo = wr := ⟨_, rfl⟩
   go_wp2
   go_loopw [5, 6] (fun rv jv wr => ∃ (j : Nat) (si : Sl) (Ci : Array Value) (X : Nat → Prop), j ≤ n ∧ jv = .int .i64 ((j : Nat) : Int) ∧ rv = si.v ∧ si.n = j ∧ Wr 2 si Ci ∧ Zs w wr X0 X ([] ++ (owl so Co 36 ++ owl si Ci 56)) [Fl 2 (ENr (fun j => B j i)) j Ci, Fl 1 (ERr (fun _ => n) (fun i j => B j i)) i Co, Mr n (fun _ => n) B a]) (fun _ iv _ => n - (intOf iv).toNat)
   case atStart => exact ⟨0, slz, #[], _, by omega, rfl, rfl, rfl, wr_slz 2, by simpa [owl, slz] using (hZ.more (f := Fl 2 (ENr (fun j => B j i)) 0 #[]) (Fl.stb (ENr.stb _) _ _) (fl_zero 2 (ENr (fun j => B j i)) #[] _ _))⟩
   case round =>
    clear hZ
    obtain ⟨j, si, Ci, Xi, hj, rfl, rfl, hn_si, hw_si, hZi⟩ := hrel
    by_cases hlj : j < n
    ·
     go_wp2_with (refine stop_op rfl (fun K hK => wp_lenq (.tmp 14) 32 36 a rfl (by kernel_rfl) rfl (hZi.get 2 (f := Mr n (fun _ => n) B a) rfl).n (hK _ _ ?_)))
     unfold Stop
     try simp only [Act.put, zzC, zzD, zzE]
     go_wp2_with (refine stop_op rfl (fun K hK => wp_lssi (.tmp 13) (.tmp 15) rfl rfl rfl (r := true) (decide_eq_true (by omega)) (hK _ _ ?_)))
     unfold Stop
     try simp only [Act.put, zzC, zzD, zzE]
     go_wp2_with (refine stop_op rfl (fun K hK => wp_ixs 32 (.tmp 20) (.tmp 21) a j 1 36 rfl rfl rfl (by kernel_rfl) sz36 (fun h => ((hZi.get 2 (f := Mr n (fun _ => n) B a) rfl).sq.nil h).1) ((hZi.get 2 (f := Mr n (fun _ => n) B a) rfl).n ▸ (by omega)) (hK _ _ ?_)))
     unfold Stop
     try simp only [Act.put, zzC, zzD, zzE]
     go_wp2_with (refine stop_op rfl (fun K hK => wp_ldmr 36 (.tmp 22) a j n (fun _ => n) B rfl rfl (hZi.get 2 (f := Mr n (fun _ => n) B a) rfl) (by omega) ag36 (fun s1 hi_s1 => hK _ _ ?_)))
     unfold Stop
     try simp only [Act.put, zzC, zzD, zzE]
     have hZ2 := hZi.more (f := Lr n (B j) s1) (Lr.stb _ _ _) hi_s1
     clear hZi
     clear hi_s1
     go_wp2_with (refine stop_op rfl (fun K hK => wp_ixs 36 (.tmp 23) (.tmp 24) s1 i 2 56 rfl rfl rfl (by kernel_rfl) sz56 (fun h => ((hZ2.get 0 (f := Lr n (B j) s1) rfl).sq.nil h).1) ((hZ2.get 0 (f := Lr n (B j) s1) rfl).n ▸ (by omega)) (hK _ _ ?_)))
     unfold Stop
     try simp only [Act.put, zzC, zzD, zzE]
     go_wp2_with (refine stop_op rfl (fun K hK => wp_ldnr 56 (.tmp 25) s1 i n (B j) rfl rfl (hZ2.get 0 (f := Lr n (B j) s1) rfl) (by omega) ag56 sz56 (fun q2 ez_q2 hi_q2 => hK _ _ ?_)))
     unfold Stop
     try simp only [Act.put, zzC, zzD, zzE]
     have hZ3 := hZ2.more (f := q2.ir) q2.stbr hi_q2
     clear hZ2
     clear hi_q2
     go_wp2_with (refine stop_op rfl (fun K hK => wp_bs2 ei36 (.tmp 26) rfl rfl (hK _ _ ?_)))
     unfold Stop
     try simp only [Act.put, zzC, zzD, zzE]
     have hZ4 := hZ3.later (below_new _ (.cells #[.bool q2.b, .slice q2.a q2.n q2.c] 56))
     clear hZ3
     have hZ5y := hZ4.perm ((List.Perm.append_left _ List.perm_append_comm).trans (perm_mid _ _ _))
     go_wp2_with (refine stop_op rfl (fun K hK => wp_app ei36 (.tmp 19) (.tmp 27) rfl (s := si) rfl ⟨wr.heap.size, 0, none⟩ 1 rfl hw_si (by rw [hn_si]; omega) hZ5y [.bool q2.b, .slice q2.a q2.n q2.c] rfl (cell_two _ (.bool q2.b) (.slice q2.a q2.n q2.c) _) (fun u hu => by simp only [List.mem_cons, List.not_mem_nil, or_false] at hu; rcases hu with rfl | rfl <;> rfl) (fun o3 C3 X5 W1 hn_o3 hw_o3 ho_C3 hg_C3 hZ5x => hK _ _ ?_)))
     unfold Stop
     try simp only [Act.put, zzC, zzD, zzE]
     clear hZ5y
     rw [hn_si] at hn_o3 ho_C3 hg_C3
     have hZ5 := hZ5x.perm (List.Perm.symm ((List.Perm.append_left _ List.perm_append_comm).trans (perm_mid _ _ _)))
     clear hZ5x
     clear hZ4
     have hZ6s : Fl 2 (ENr (fun j => B j i)) (j + 1) C3 X5 W1 := Fl.snoc (C := Ci) (hZ5.get 2 (f := Fl 2 (ENr (fun j => B j i)) j Ci) rfl) (cs := [.bool q2.b, .slice q2.a q2.n q2.c]) rfl ho_C3 hg_C3 ⟨q2, ez_q2, (hZ5.get 0 (f := q2.ir) rfl), rfl⟩
     have hZ6 := (hZ5.more (Fl.stb (ENr.stb _) _ _) hZ6s).only [Fl 2 (ENr (fun j => B j i)) (j + 1) C3, Fl 1 (ERr (fun _ => n) (fun i j => B j i)) i Co, Mr n (fun _ => n) B a] (by simp)
     clear hZ5 hZ6s
     go_wp2_with (refine stop_op rfl (fun K hK => wp_addi (.tmp 17) (.const (.int .i64 1)) rfl rfl rfl (C := ((j + 1 : Nat) : Int)) (by omega) (by omega) (by omega) (hK _ _ ?_)))
     unfold Stop
     try simp only [Act.put, zzC, zzD, zzE]
     go_wp2
     go_roundw
     case rel => exact ⟨j + 1, o3, C3, _, by omega, by go_num, rfl, hn_o3, hw_o3, hZ6⟩
     case measure => simp [intOf]; omega
    ·
     obtain rfl : n = j := by omega
     go_wp2_with (refine stop_op rfl (fun K hK => wp_lenq (.tmp 14) 32 36 a rfl (by kernel_rfl) rfl (hZi.get 2 (f := Mr n (fun _ => n) B a) rfl).n (hK _ _ ?_)))
     unfold Stop
     try simp only [Act.put, zzC, zzD, zzE]
     go_wp2_with (refine stop_op rfl (fun K hK => wp_lssi (.tmp 13) (.tmp 15) rfl rfl rfl (r := false) (decide_eq_false (Int.lt_irrefl _)) (hK _ _ ?_)))
     unfold Stop
     try simp only [Act.put, zzC, zzD, zzE]
     have hZ7r := (hZi.get 0 (f := Fl 2 (ENr (fun j => B j i)) n Ci) rfl)
     obtain ⟨X8, hZ8⟩ := Zs.tellr (hZi.perm ((List.Perm.append_left _ List.perm_append_comm).trans (perm_mid _ _ _))) hX hw_si hn_si hZ7r
     clear hZi
     clear hZ7r
     go_wp2_with (refine stop_op rfl (fun K hK => wp_bs1 ei32 (.tmp 30) rfl rfl rfl (hK _ _ ?_)))
     unfold Stop
     try simp only [Act.put, zzC, zzD, zzE]
     have hZ9 := hZ8.later (below_new _ (.cells #[si.v] 36))
     clear hZ8
     have hZ10y := hZ9.perm List.perm_append_comm
     go_wp2_with (refine stop_op rfl (fun K hK => wp_app ei32 (.tmp 29) (.tmp 31) rfl (s := so) rfl ⟨wr.heap.size, 0, none⟩ 1 rfl hw_so (by rw [hn_so]; omega) hZ10y [si.v] rfl (cell_one _ si.v _) (fun u hu => by simp only [List.mem_cons, List.not_mem_nil, or_false] at hu; subst hu; rfl) (fun o4 C4 X10 W2 hn_o4 hw_o4 ho_C4 hg_C4 hZ10x => hK _ _ ?_)))
     unfold Stop
     try simp only [Act.put, zzC, zzD, zzE]
     clear hZ10y
     rw [hn_so] at hn_o4 ho_C4 hg_C4
     have hZ10 := hZ10x.perm List.perm_append_comm
     clear hZ10x
     clear hZ9
     have hZ11s : Fl 1 (ERr (fun _ => n) (fun i j => B j i)) (i + 1) C4 X10 W2 := Fl.snoc (C := Co) (hZ10.get 2 (f := Fl 1 (ERr (fun _ => n) (fun i j => B j i)) i Co) rfl) (cs := [si.v]) rfl ho_C4 hg_C4 ⟨si, (hZ10.get 0 (f := Lr n ((fun i j => B j i) i) si) rfl), rfl⟩
     have hZ11 := (hZ10.more (Fl.stb (ERr.stb _ _) _ _) hZ11s).only [Fl 1 (ERr (fun _ => n) (fun i j => B j i)) (i + 1) C4, Mr n (fun _ => n) B a] (by simp)
     clear hZ10 hZ11s
     go_wp2_with (refine stop_op rfl (fun K hK => wp_addi (.tmp 11) (.const (.int .i64 1)) rfl rfl rfl (C := ((i + 1 : Nat) : Int)) (by omega) (by omega) (by omega) (hK _ _ ?_)))
     unfold Stop
     try simp only [Act.put, zzC, zzD, zzE]
     go_wp2
     go_roundw
     case rel => exact ⟨i + 1, o4, C4, _, by omega, by go_num, rfl, hn_o4, hw_o4, hZ11⟩
     case measure => simp [intOf]; omega
  ·
   obtain rfl : n = i := by omega
   go_wp2_with (refine stop_op rfl (fun K hK => wp_lenq (.tmp 8) 32 36 a rfl (by kernel_rfl) rfl (hZ.get 1 (f := Mr n (fun _ => n) B a) rfl).n (hK _ _ ?_)))
   unfold Stop
   try simp only [Act.put, zzC, zzD, zzE]
   go_wp2_with (refine stop_op rfl (fun K hK => wp_lssi (.tmp 7) (.tmp 9) rfl rfl rfl (r := false) (decide_eq_false (Int.lt_irrefl _)) (hK _ _ ?_)))
   unfold Stop
   try simp only [Act.put, zzC, zzD, zzE]
   go_wp2
   go_ret
   exact ⟨so, rfl, ⟨hn_so, hZ.sq hX (ERr.stb _ _) hw_so (T := 36) (fun p hp => hp) (hn_so ▸ hZ.get 0 (f := Fl 1 (ERr (fun _ => n) (fun i j => B j i)) n Co) rfl)⟩, hZ.below⟩
set_option maxRecDepth 100000 in
set_option maxHeartbeats 12800000 in
theorem dMul {X0 : Nat → Prop} {w : World} (hX : NX X0 w) (a b : Sl) {n e : Nat} {B D : Nat → Nat → Int} (ha : Mr n (fun _ => n) B a X0 w) (hb_ : Mr n (fun _ => n) D b X0 w) (bB : ∀ i j, i < n → j < n → Sz e (B i j)) (bD : ∀ i j, i < n → j < n → Sz e (D i j)) (hn : n ≤ 1000) (he : e ≤ 400000) : Calls Tryz.prog 20 #[a.v, b.v] w (PMXr X0 n (fun _ => n) (M.mulm n B D) w) := by
 have hZ0 := zs_start hX
 have hZ1 := hZ0.more (f := Mr n (fun _ => n) D b) (Mr.stb _ _ _ _) hb_
 clear hZ0
 have hZ2 := hZ1.more (f := Mr n (fun _ => n) B a) (Mr.stb _ _ _ _) ha
 clear hZ1
 go_enter Tryz.func20, Tryz.ntmps20
 go_wp2_with fail
 refine (dTurned hZ2.nx b (hZ2.get 1 (f := Mr n (fun _ => n) D b) rfl) (by omega)).mono ?_
 rintro zz W1 ⟨s1, rfl, hi_s1, hB⟩
 have hZ3 := hZ2.later hB
 clear hB
 clear hZ2
 have hZ4 := hZ3.more (f := Mr n (fun _ => n) (fun i j => D j i) s1) (Mr.stb _ _ _ _) hi_s1
 clear hZ3
 clear hi_s1
 have hZ5 := hZ4.only [Mr n (fun _ => n) B a, Mr n (fun _ => n) (fun i j => D j i) s1] (by simp)
 clear hZ4
 go_wp2
 go_loopw [5, 7] (fun ov iv wr => ∃ (i : Nat) (so : Sl) (Co : Array Value) (X : Nat → Prop), i ≤ n ∧ iv = .int .i64 ((i : Nat) : Int) ∧ ov = so.v ∧ so.n = i ∧ Wr 1 so Co ∧ Zs w wr X0 X ([] ++ owl so Co 36) [Fl 1 (ERr (fun _ => n) (M.mulm n B D)) i Co, Mr n (fun _ => n) B a, Mr n (fun _ => n) (fun i j => D j i) s1]) (fun _ iv _ => n - (intOf iv).toNat)
 case atStart => exact ⟨0, slz, #[], _, by omega, rfl, rfl, rfl, wr_slz 1, by simpa [owl, slz] using (hZ5.more (f := Fl 1 (ERr (fun _ => n) (M.mulm n B D)) 0 #[]) (Fl.stb (ERr.stb _ _) _ _) (fl_zero 1 (ERr (fun _ => n) (M.mulm n B D)) #[] _ _))⟩
 case round =>
  clear hZ5
  obtain ⟨i, so, Co, X, hi, rfl, rfl, hn_so, hw_so, hZ⟩ := hrel
  by_cases hlt : i < n
  ·
   go_wp2_with (refine stop_op rfl (fun K hK => wp_lenq (.tmp 11) 32 36 a rfl (by kernel_rfl) rfl (hZ.get 1 (f := Mr n (fun _ => n) B a) rfl).n (hK _ _ ?_)))
   unfold Stop
   try simp only [Act.put, zzC, zzD, zzE]
   go_wp2_with (refine stop_op rfl (fun K hK => wp_lssi (.tmp 10) (.tmp 12) rfl rfl rfl (r := true) (decide_eq_true (by omega)) (hK _ _ ?_)))
   unfold Stop
   try simp only [Act.put, zzC, zzD, zzE]
   go_wp2_with (refine stop_op rfl (fun K hK => wp_ixs 32 (.tmp 18) (.tmp 19) a i 1 36 rfl rfl rfl (by kernel_rfl) sz36 (fun h => ((hZ.get 1 (f := Mr n (fun _ => n) B a) rfl).sq.nil h).1) ((hZ.get 1 (f := Mr n (fun _ => n) B a) rfl).n ▸ (by omega)) (hK _ _ ?_)))
   unfold Stop
   try simp only [Act.put, zzC, zzD, zzE]
   go_wp2_with (refine stop_op rfl (fun K hK => wp_ldmr 36 (.tmp 20) a i n (fun _ => n) B rfl rfl (hZ.get 1 (f := Mr n (fun _ => n) B a) rfl) (by omega) ag36 (fun s2 hi_s2 => hK _ _ ?_)))
   unfold Stop
   try simp only [Act.put, zzC, zzD, zzE]
   have hZ6 := hZ.more (f := Lr n (B i) s2) (Lr.stb _ _ _) hi_s2
   clear hZ
   clear hi_s2
   go_wp2_with fail
   refine (dApply hZ6.nx s1 s2 (e := e) (hZ6.get 3 (f := Mr n (fun _ => n) (fun i j => D j i) s1) rfl) (hZ6.get 0 (f := Lr n (B i) s2) rfl) (fun i j hi hj => bD j i hj hi) (fun t ht => bB i t (by omega) ht) (by omega) (by omega)).mono ?_
   rintro zz W2 ⟨s3, rfl, hi_s3, hB⟩
   have hZ7 := hZ6.later hB
   clear hB
   clear hZ6
   have hZ8 := hZ7.more (f := Lr n (M.mulv n (fun i j => D j i) (B i)) s3) (Lr.stb _ _ _) hi_s3
   clear hZ7
   clear hi_s3
   go_wp2_with (refine stop_op rfl (fun K hK => wp_bs1 ei32 (.tmp 22) rfl rfl rfl (hK _ _ ?_)))
   unfold Stop
   try simp only [Act.put, zzC, zzD, zzE]
   have hZ9 := hZ8.later (below_new _ (.cells #[s3.v] 36))
   clear hZ8
   have hZ10y := hZ9.perm List.perm_append_comm
   go_wp2_with (refine stop_op rfl (fun K hK => wp_app ei32 (.tmp 16) (.tmp 23) rfl (s := so) rfl ⟨W2.heap.size, 0, none⟩ 1 rfl hw_so (by rw [hn_so]; omega) hZ10y [s3.v] rfl (cell_one _ s3.v _) (fun u hu => by simp only [List.mem_cons, List.not_mem_nil, or_false] at hu; subst hu; rfl) (fun o4 C4 X10 W3 hn_o4 hw_o4 ho_C4 hg_C4 hZ10x => hK _ _ ?_)))
   unfold Stop
   try simp only [Act.put, zzC, zzD, zzE]
   clear hZ10y
   rw [hn_so] at hn_o4 ho_C4 hg_C4
   have hZ10 := hZ10x.perm List.perm_append_comm
   clear hZ10x
   clear hZ9
   have hZ11s : Fl 1 (ERr (fun _ => n) (M.mulm n B D)) (i + 1) C4 X10 W3 := Fl.snoc (C := Co) (hZ10.get 2 (f := Fl 1 (ERr (fun _ => n) (M.mulm n B D)) i Co) rfl) (cs := [s3.v]) rfl ho_C4 hg_C4 ⟨s3, (hZ10.get 0 (f := Lr n (M.mulv n (fun i j => D j i) (B i)) s3) rfl).congr (fun t _ => M.sm_congr fun u _ => Int.mul_comm _ _), rfl⟩
   have hZ11 := (hZ10.more (Fl.stb (ERr.stb _ _) _ _) hZ11s).only [Fl 1 (ERr (fun _ => n) (M.mulm n B D)) (i + 1) C4, Mr n (fun _ => n) B a, Mr n (fun _ => n) (fun i j => D j i) s1] (by simp)
   clear hZ10 hZ11s
   go_wp2_with (refine stop_op rfl (fun K hK => wp_addi (.tmp 14) (.const (.int .i64 1)) rfl rfl rfl (C := ((i + 1 : Nat) : Int)) (by omega) (by omega) (by omega) (hK _ _ ?_)))
   unfold Stop
   try simp only [Act.put, zzC, zzD, zzE]
   go_wp2
   go_roundw
   case rel => exact ⟨i + 1, o4, C4, _, by omega, by go_num, rfl, hn_o4, hw_o4, hZ11⟩
   case measure => simp [intOf]; omega
  ·
   obtain rfl : n = i := by omega
   go_wp2_with (refine stop_op rfl (fun K hK => wp_lenq (.tmp 11) 32 36 a rfl (by kernel_rfl) rfl (hZ.get 1 (f := Mr n (fun _ => n) B a) rfl).n (hK _ _ ?_)))
   unfold Stop
   try simp only [Act.put, zzC, zzD, zzE]
   go_wp2_with (refine stop_op rfl (fun K hK => wp_lssi (.tmp 10) (.tmp 12) rfl rfl rfl (r := false) (decide_eq_false (Int.lt_irrefl _)) (hK _ _ ?_)))
   unfold Stop
   try simp only [Act.put, zzC, zzD, zzE]
   go_wp2
   go_ret
   exact ⟨so, rfl, ⟨hn_so, hZ.sq hX (ERr.stb _ _) hw_so (T := 36) (fun p hp => hp) (hn_so ▸ hZ.get 0 (f := Fl 1 (ERr (fun _ => n) (M.mulm n B D)) n Co) rfl)⟩, hZ.below⟩
set_option maxRecDepth 100000 in
set_option maxHeartbeats 12800000 in
theorem dQuad {X0 : Nat → Prop} {w : World} (hX : NX X0 w) (a xs : Sl) {n e : Nat} {B : Nat → Nat → Int} {x : Nat → Int} (ha : Mr n (fun _ => n) B a X0 w) (hx : Lr n x xs X0 w) (bB : ∀ i j, i < n → j < n → Sz e (B i j)) (bx : ∀ k, k < n → Sz e (x k)) (hn : n ≤ 1000) (he : e ≤ 100000) : Calls Tryz.prog 24 #[a.v, xs.v] w (PNXr X0 (M.sm n (fun t => x t * M.mulv n B x t)) w) := by
 have hZ0 := zs_start hX
 have hZ1 := hZ0.more (f := Lr n x xs) (Lr.stb _ _ _) hx
 clear hZ0
 have hZ2 := hZ1.more (f := Mr n (fun _ => n) B a) (Mr.stb _ _ _ _) ha
 clear hZ1
 go_enter Tryz.func24, Tryz.ntmps24
 go_wp2_with (refine stopz_alloc 56 #[.bool false, .slice none 0 0] (.agg #[.bool false, .slice none 0 0]) rfl rfl zv56 rfl hZ2 (fun bk1 X3 W1 hZ3 => ?_))
 clear hZ2
 unfold Stop
 try simp only [Act.put, zzC, zzD, zzE]
 go_wp2_with fail
 refine (dApply hZ3.nx a xs (e := e) (hZ3.get 0 (f := Mr n (fun _ => n) B a) rfl) (hZ3.get 1 (f := Lr n x xs) rfl) bB bx (by omega) (by omega)).mono ?_
 rintro zz W2 ⟨sx, rfl, hi_sx, hB⟩
 have hZ4 := hZ3.later hB
 clear hB
 clear hZ3
 have hZ5 := hZ4.more (f := Lr n (M.mulv n B x) sx) (Lr.stb _ _ _) hi_sx
 clear hZ4
 clear hi_sx
 go_wp2_with fail
 refine (dDot hZ5.nx xs sx (e := e + e + n) (hZ5.get 2 (f := Lr n x xs) rfl) (hZ5.get 0 (f := Lr n (M.mulv n B x) sx) rfl) (fun k hk => (bx k hk).mono (by omega)) (fun (i : Nat) (hi : i < n) => sm_sz (fun (t : Nat) (ht : t < n) => Sz.mul (bB i t hi ht) (bx t ht))) (by omega) (by omega)).mono ?_
 rintro zz W3 ⟨q1, rfl, ez_q1, hi_q1, hB⟩
 have hZ6 := hZ5.later hB
 clear hB
 clear hZ5
 have hZ7 := hZ6.more (f := q1.ir) q1.stbr hi_q1
 clear hZ6
 clear hi_q1
 go_wp2_with (refine stopz_store 56 (.tmp 4) (.tmp 9) 0 bk1 0 #[.bool false, .slice none 0 0] 56 2 [.bool q1.b, .slice q1.a q1.n q1.c] #[.bool q1.b, .slice q1.a q1.n q1.c] [(bk1, #[.bool q1.b, .slice q1.a q1.n q1.c], 56)] rfl rfl rfl rfl sz56 hZ7 rfl rfl (zzF (by kernel_rfl)) (by kernel_rfl) (by kernel_rfl) (by kernel_rfl) (fun W4 hZ8 => ?_))
 clear hZ7
 unfold Stop
 try simp only [Act.put, zzC, zzD, zzE]
 go_wp2
 exact bodyPost_ret (v := q1.v) (results_cell 0 Tryz.results24 hZ8.es rfl ag56 sz56 (zzF (by kernel_rfl)) rfl (by kernel_rfl)) rfl ⟨q1, rfl, ez_q1, hZ8.out 0 (f := q1.ir) rfl, hZ8.below⟩
end Go.Proofs.YtolpfibihialkaaGreatDoor

/- The mathematics of LinDefinite and LinRules: definite matrices have leading minors above 0, and back; a matrix times its turned one, and one on the diagonal; rows that change places. No statement of the seat is proved here. -/
namespace Go.Proofs.YtolpfibihialkaaGreatDoor
open Go Go.RowKit
namespace M
variable {n : Nat} {F : (Nat → Nat → Int) → Int}
theorem Alt.same' (h : Alt n F) {i k : Nat} {f : Nat → Nat → Int} (hik : i ≠ k) (hi : i < n) (hk : k < n) (e : ∀ j, j < n → f i j = f k j) : F f = 0 := by
 rcases Nat.lt_or_gt_of_ne hik with hl | hl
 ·
  exact h.same hl hk e
 ·
  exact h.same hl hi fun j hj => (e j hj).symm
theorem rw_comm (f : Nat → Nat → Int) {i k : Nat} (x y : Nat → Int) (h : i ≠ k) : rw' (rw' f i x) k y = rw' (rw' f k y) i x := by
 funext a b
 unfold rw'
 by_cases e1 : a = k
 ·
  subst e1; rw [if_pos rfl, if_neg (fun q => h q.symm), if_pos rfl]
 ·
  by_cases e2 : a = i
  ·
   subst e2; rw [if_neg e1, if_pos rfl, if_pos rfl]
  ·
   rw [if_neg e1, if_neg e2, if_neg e2, if_neg e1]
/-- Two rows change places. -/
theorem Alt.change (h : Alt n F) {i k : Nat} (f : Nat → Nat → Int) (hik : i ≠ k) (hi : i < n) (hk : k < n) : F (rw' (rw' f i (f k)) k (f i)) = - F f := by
 have both : ∀ x : Nat → Int, F (rw' (rw' f i x) k x) = 0 := fun x => h.same' hik hi hk fun j _ => by rw [rw_ne hik, rw_self, rw_self]
 have hy : ∀ x : Nat → Int, F (rw' (rw' f i x) k (fun j => 1 * f i j + 1 * f k j)) = 1 * F (rw' (rw' f i x) k (f i)) + 1 * F (rw' (rw' f i x) k (f k)) := fun x => h.lin k (rw' f i x) (f i) (f k) 1 1 hk
 have hx : ∀ y : Nat → Int, F (rw' (rw' f i (fun j => 1 * f i j + 1 * f k j)) k y) = 1 * F (rw' (rw' f i (f i)) k y) + 1 * F (rw' (rw' f i (f k)) k y) := fun y => by
  rw [rw_comm f _ y hik, rw_comm f _ y hik, rw_comm f _ y hik]
  exact h.lin i (rw' f k y) (f i) (f k) 1 1 hi
 have h0 := both (fun j => 1 * f i j + 1 * f k j)
 rw [hy, hx, hx, both (f i), both (f k)] at h0
 have e : F (rw' (rw' f i (f i)) k (f k)) = F f := h.congr _ _ fun a b _ _ => by
  unfold rw'
  by_cases e1 : a = k
  ·
   subst e1; rw [if_pos rfl]
  ·
   by_cases e2 : a = i
   ·
    subst e2; rw [if_neg e1, if_pos rfl]
   ·
    rw [if_neg e1, if_neg e2]
 rw [e] at h0
 omega
end M
end Go.Proofs.YtolpfibihialkaaGreatDoor
