/- Parts of the proof. -/
import Derived.Test.YtolpfibihialkaaGreatDoorGq0
import Derived.Test.YtolpfibihialkaaGreatDoorGq31
import Derived.Deep.CutRange
/- The document's Parse, walked. No statement of the seat is proved here. -/
namespace Go.Proofs.YtolpfibihialkaaGreatDoor
open Go Go.RowKit
set_option maxRecDepth 100000 in
set_option maxHeartbeats 25600000 in
theorem rfParse_pos (s : ByteArray) {X0 : Nat → Prop} (w : World) (hX : NX X0 w) (hs : s.size ≤ 40) (h0 : 0 < s.size) (hm : chr s 0 ≠ 45) : Calls Tryz.prog 7 #[.string s] w (PVal (.tuple #[.int .i64 (fxV s.data.toList), .bool (fxC s.data.toList), .int .i64 (fxE s.data.toList)]) w) := by
 obtain ⟨hpB, hpD⟩ := pd_pos (s := s) (fun h0 => by rw [← chr_eq h0]; exact hm)
 have HPB := Lib.hid hpB
 have HPD := Lib.hid hpD
 have HM := Lib.hid hm
 clear hpB hpD hm
 have HG := Lib.hid (show 0 ≤ s.size by omega)
 have hZ0 := zs_start hX
 go_enter Tryz.func7, Tryz.ntmps7
 go_wp2_with (refine stop_op rfl (fun K hK => wp_lenst (.tmp 18) 9 (by kernel_rfl) rfl rfl (hK _ _ ?_)))
 unfold Stop
 try simp only [Act.put, zzC, zzD, zzE]
 go_wp2_with (refine stop_op rfl (fun K hK => wp_gtri (.tmp 19) (.const (.int .i64 40)) rfl rfl rfl (r := false) (decide_eq_false (by omega)) (hK _ _ ?_)))
 unfold Stop
 try simp only [Act.put, zzC, zzD, zzE]
 go_wp2_with (refine stop_op rfl (fun K hK => wp_lenst (.tmp 21) 9 (by kernel_rfl) rfl rfl (hK _ _ ?_)))
 unfold Stop
 try simp only [Act.put, zzC, zzD, zzE]
 go_wp2_with (refine stop_op rfl (fun K hK => wp_gtri (.tmp 22) (.const (.int .i64 0)) rfl rfl rfl (r := true) (decide_eq_true (by omega)) (hK _ _ ?_)))
 unfold Stop
 try simp only [Act.put, zzC, zzD, zzE]
 go_wp2_with (refine stop_opw (by kernel_rfl) (fun K hK => wp_sidx 9 (.tmp 25) (.const (.int .i64 0)) (by kernel_rfl) rfl rfl (i := 0) rfl (by omega) (hK _ _ ?_)))
 unfold Stop
 try simp only [Act.put, zzC, zzD, zzE]
 go_wp2_with (refine stop_opw (by kernel_rfl) (fun K hK => wp_eql8 (.tmp 26) (.const (.int .u8 45)) rfl rfl rfl (r := false) (decide_eq_false (by have := HM.out; omega)) (hK _ _ ?_)))
 unfold Stop
 try simp only [Act.put, zzC, zzD, zzE]
 go_wp2_with (refine stopz_alloc 56 #[.bool false, .slice none 0 0] (.agg #[.bool false, .slice none 0 0]) rfl rfl zv56 rfl hZ0 (fun bk1 X1 W1 hZ1 => ?_))
 clear hZ0
 unfold Stop
 try simp only [Act.put, zzC, zzD, zzE]
 go_wp2_with (refine stopz_store 56 (.tmp 7) (.tmp 30) 0 bk1 0 #[.bool false, .slice none 0 0] 56 2 [.bool false, .slice none 0 0] #[.bool false, .slice none 0 0] [(bk1, #[.bool false, .slice none 0 0], 56)] rfl rfl rfl rfl sz56 hZ1 rfl rfl (zzF (by kernel_rfl)) (by kernel_rfl) (by kernel_rfl) (by kernel_rfl) (fun W2 hZ2 => ?_))
 clear hZ1
 unfold Stop
 try simp only [Act.put, zzC, zzD, zzE]
 go_wp2_with fail
 refine (zOfr hZ2.nx (by omega) (by omega)).mono ?_
 rintro zz W3 ⟨q1, rfl, ez_q1, hi_q1, hB⟩
 have hZ3 := hZ2.later hB
 clear hB
 clear hZ2
 have hZ4 := hZ3.more (f := q1.ir) q1.stbr hi_q1
 clear hZ3
 clear hi_q1
 go_wp2_with (refine stopz_alloc 56 #[.bool false, .slice none 0 0] (.agg #[.bool false, .slice none 0 0]) rfl rfl zv56 rfl hZ4 (fun bk2 X5 W4 hZ5 => ?_))
 clear hZ4
 unfold Stop
 try simp only [Act.put, zzC, zzD, zzE]
 go_wp2_with (refine stopz_store 56 (.tmp 8) (.tmp 31) 0 bk2 0 #[.bool false, .slice none 0 0] 56 2 [.bool q1.b, .slice q1.a q1.n q1.c] #[.bool q1.b, .slice q1.a q1.n q1.c] [(bk2, #[.bool q1.b, .slice q1.a q1.n q1.c], 56), (bk1, #[.bool false, .slice none 0 0], 56)] rfl rfl rfl rfl sz56 hZ5 rfl rfl (zzF (by kernel_rfl)) (by kernel_rfl) (by kernel_rfl) (by kernel_rfl) (fun W5 hZ6 => ?_))
 clear hZ5
 unfold Stop
 try simp only [Act.put, zzC, zzD, zzE]
 have hZ7 := hZ6.only [q1.ir] (by simp)
 clear hZ6
 go_wp2
 go_loopw [5] (fun iv wr => ∃ (i : Nat) (px : NL) (X : Nat → Prop), 0 ≤ i ∧ i ≤ 0 + (tw s 0).length ∧ iv = .int .i64 ((i : Nat) : Int) ∧ px.z = ((dval ((tw s 0).take (i - 0)) : Nat) : Int) ∧ Zs w wr X0 X [(bk2, #[.bool q1.b, .slice q1.a q1.n q1.c], 56), (bk1, #[.bool px.b, .slice px.a px.n px.c], 56)] [px.ir, q1.ir]) (fun iv _ => 50 - (intOf iv).toNat)
 case atStart => exact ⟨0, nlz, _, Nat.le_refl _, Nat.le_add_right _ _, rfl, (by rw [Nat.sub_self]; rfl), hZ7.more nlz.stbr (nlz_isr _ _)⟩
 case round =>
  clear hZ7
  obtain ⟨i, px, X, hi1, hi2, rfl, ez_px, hZ⟩ := hrel
  have hpx : (((dval ((tw s 0).take (i - 0)) : Nat) : Int)).natAbs < 10 ^ 50 := tw_big s 0 _ hs HG.out
  by_cases h1 : i < 0 + (tw s 0).length
  ·
   obtain ⟨hil, h48, h57, _⟩ := tw_step HG.out hi1 h1
   have HV := Lib.hid (dv_step (s := s) (g := 0) [] HG.out hi1 h1)
   go_wp2_with (refine stop_op rfl (fun K hK => wp_lenst (.tmp 34) 9 (by kernel_rfl) rfl rfl (hK _ _ ?_)))
   unfold Stop
   try simp only [Act.put, zzC, zzD, zzE]
   go_wp2_with (refine stop_op rfl (fun K hK => wp_lssi (.tmp 33) (.tmp 35) rfl rfl rfl (r := true) (decide_eq_true (by omega)) (hK _ _ ?_)))
   unfold Stop
   try simp only [Act.put, zzC, zzD, zzE]
   go_wp2_with (refine stop_opw (by kernel_rfl) (fun K hK => wp_sidx 9 (.tmp 38) (.tmp 39) (by kernel_rfl) rfl rfl (i := i) rfl (by omega) (hK _ _ ?_)))
   unfold Stop
   try simp only [Act.put, zzC, zzD, zzE]
   go_wp2_with (refine stop_opw (by kernel_rfl) (fun K hK => wp_geq8 (.tmp 40) (.const (.int .u8 48)) rfl rfl rfl (r := true) (decide_eq_true (by omega)) (hK _ _ ?_)))
   unfold Stop
   try simp only [Act.put, zzC, zzD, zzE]
   go_wp2_with (refine stop_opw (by kernel_rfl) (fun K hK => wp_sidx 9 (.tmp 44) (.tmp 45) (by kernel_rfl) rfl rfl (i := i) rfl (by omega) (hK _ _ ?_)))
   unfold Stop
   try simp only [Act.put, zzC, zzD, zzE]
   go_wp2_with (refine stop_opw (by kernel_rfl) (fun K hK => wp_leq8 (.tmp 46) (.const (.int .u8 57)) rfl rfl rfl (r := true) (decide_eq_true (by omega)) (hK _ _ ?_)))
   unfold Stop
   try simp only [Act.put, zzC, zzD, zzE]
   go_wp2
   have hM : Zs w wr.drew X0 X [(bk2, #[.bool q1.b, .slice q1.a q1.n q1.c], 56), (bk1, #[.bool px.b, .slice px.a px.n px.c], 56)] [px.ir, q1.ir] ∧ Below wr.heap.size wr wr.drew := ⟨hZ.later (Below.refl _ _).drew, (Below.refl _ _).drew⟩
   clear hZ
   have hVS11 : ∀ k, k ∈ ([veq (px.v), veq (q1.v), vnumr (((dval ((tw s 0).take (i - 0)) : Nat) : Int) * 10), veq (.string s), veq (.int .i64 (((i : Nat) : Int))), veq (.int .u8 (((chr s i : Nat) : Int))), veq (.int .u8 ((((chr s i : Nat) : Int) - 48))), veq (.int .i64 ((((chr s i : Nat) : Int) - 48))), vnumr ((((chr s i : Nat) : Int) - 48)), vnumr ((((dval ((tw s 0).take (i - 0)) : Nat) : Int) * 10) + (((chr s i : Nat) : Int) - 48))] : List VF) → VSt k := by
    intro k hk
    simp only [List.mem_cons, List.not_mem_nil, or_false] at hk
    rcases hk with rfl | rfl | rfl | rfl | rfl | rfl | rfl | rfl | rfl | rfl
    ·
     exact veq_st _
    ·
     exact veq_st _
    ·
     exact vnum_str _
    ·
     exact veq_st _
    ·
     exact veq_st _
    ·
     exact veq_st _
    ·
     exact veq_st _
    ·
     exact veq_st _
    ·
     exact vnum_str _
    ·
     exact vnum_str _
   refine wp_region_q 10 [some 49, some 50, some 51, some 52, some 53, some 54, some 55, some 56, some 57, some 58] (vzL [veq (px.v), veq (q1.v), vnumr (((dval ((tw s 0).take (i - 0)) : Nat) : Int) * 10), veq (.string s), veq (.int .i64 (((i : Nat) : Int))), veq (.int .u8 (((chr s i : Nat) : Int))), veq (.int .u8 ((((chr s i : Nat) : Int) - 48))), veq (.int .i64 ((((chr s i : Nat) : Int) - 48))), vnumr ((((chr s i : Nat) : Int) - 48)), vnumr ((((dval ((tw s 0).take (i - 0)) : Nat) : Int) * 10) + (((chr s i : Nat) : Int) - 48))] X) (fun W => Zs w W X0 X [(bk2, #[.bool q1.b, .slice q1.a q1.n q1.c], 56), (bk1, #[.bool px.b, .slice px.a px.n px.c], 56)] [px.ir, q1.ir] ∧ Below wr.heap.size wr W) (by kernel_rfl) (by kernel_rfl) (by rfl) (by decide) (by rfl) hM ?_ ?_
   ·
    intro i hl hi LL uu ww aa hLi hLc hJ hd hev hin hold
    clear hM
    obtain ⟨hJ, hJb⟩ := hJ
    obtain rfl | rfl | rfl | rfl | rfl | rfl | rfl | rfl | rfl | rfl : i = 0 ∨ i = 1 ∨ i = 2 ∨ i = 3 ∨ i = 4 ∨ i = 5 ∨ i = 6 ∨ i = 7 ∨ i = 8 ∨ i = 9 := by omega
    ·
     exact .inr ⟨rfl, fun K' hK => wp_load 56 (.tmp 7) rfl bk1 0 2 #[.bool px.b, .slice px.a px.n px.c] #[.bool px.b, .slice px.a px.n px.c] 56 (hJ.es.at' _ (zzG (i := 1) rfl)) (eval_tmp ((hev 7 (by decide)).trans rfl)) ag56 sz56 (zzF (by kernel_rfl)) (by kernel_rfl) (hK _ _ ⟨hJ, hJb⟩ rfl vzL_same)⟩
    ·
     exact .inr ⟨rfl, fun K' hK => wp_load 56 (.tmp 8) rfl bk2 0 2 #[.bool q1.b, .slice q1.a q1.n q1.c] #[.bool q1.b, .slice q1.a q1.n q1.c] 56 (hJ.es.at' _ (zzG (i := 0) rfl)) (eval_tmp ((hev 8 (by decide)).trans rfl)) ag56 sz56 (zzF (by kernel_rfl)) (by kernel_rfl) (hK _ _ ⟨hJ, hJb⟩ rfl vzL_same)⟩
    ·
     refine .inr ⟨rfl, fun K' hK => ?_⟩
     refine wp_callz (.func 35) #[.tmp 49, .tmp 50] #[56, 56] 35 #[] #[px.v, q1.v] _ rfl rfl (map2 (eval_tmp ((hin 0 49 rfl).trans (congrArg some (show uu 0 = px.v from hd 0 (by decide) (by kernel_rfl))))) (eval_tmp ((hin 1 50 rfl).trans (congrArg some (show uu 1 = q1.v from hd 1 (by decide) (by kernel_rfl)))))) rfl (fun _ _ => rfl) (zMulr hJ.nx (hJ.get 0 (f := px.ir) rfl) (hJ.get 1 (f := q1.ir) rfl) ez_px ez_q1 (sz_of50 hpx) (sz_int (by omega) (by omega)) (by omega) (by omega)) ?_
     rintro zz ww2 ⟨q2, rfl, ez_q2, hi_q2, hB⟩
     exact ⟨_, rfl, hK _ _ ⟨hJ.later hB, hJb.trans (hB.mono hJb.size)⟩ ⟨q2, rfl, ez_q2, hi_q2⟩ (vzL_later hVS11 hB)⟩
    ·
     exact .inr ⟨rfl, fun K' hK => wp_move (.tmp 0) rfl (eval_tmp ((hev 0 (by decide)).trans rfl)) (hK _ _ ⟨hJ, hJb⟩ rfl vzL_same)⟩
    ·
     exact .inr ⟨rfl, fun K' hK => wp_move (.tmp 5) rfl (eval_tmp ((hev 5 (by decide)).trans rfl)) (hK _ _ ⟨hJ, hJb⟩ rfl vzL_same)⟩
    ·
     exact .inr ⟨rfl, fun K' hK => wp_sidx 9 (.tmp 52) (.tmp 53) (by kernel_rfl) rfl (eval_tmp ((hin 3 52 rfl).trans (congrArg some (show uu 3 = .string s from hd 3 (by decide) (by kernel_rfl))))) (i := i) (eval_tmp ((hin 4 53 rfl).trans (congrArg some (show uu 4 = .int .i64 (((i : Nat) : Int)) from hd 4 (by decide) (by kernel_rfl))))) (by omega) (hK _ _ ⟨hJ, hJb⟩ rfl vzL_same)⟩
    ·
     exact .inr ⟨rfl, fun K' hK => wp_sub8 (.tmp 54) (.const (.int .u8 48)) rfl (eval_tmp ((hin 5 54 rfl).trans (congrArg some (show uu 5 = .int .u8 (((chr s i : Nat) : Int)) from hd 5 (by decide) (by kernel_rfl))))) rfl (by omega) (by omega) (by omega) (hK _ _ ⟨hJ, hJb⟩ rfl vzL_same)⟩
    ·
     exact .inr ⟨rfl, fun K' hK => wp_cv8 (.tmp 55) rfl (eval_tmp ((hin 6 55 rfl).trans (congrArg some (show uu 6 = .int .u8 ((((chr s i : Nat) : Int) - 48)) from hd 6 (by decide) (by kernel_rfl))))) (by omega) (by omega) (hK _ _ ⟨hJ, hJb⟩ rfl vzL_same)⟩
    ·
     refine .inr ⟨rfl, fun K' hK => ?_⟩
     refine wp_callz (.func 34) #[.tmp 56] #[2] 34 #[] #[.int .i64 ((((chr s i : Nat) : Int) - 48))] _ rfl rfl (map1 (eval_tmp ((hin 7 56 rfl).trans (congrArg some (show uu 7 = .int .i64 ((((chr s i : Nat) : Int) - 48)) from hd 7 (by decide) (by kernel_rfl)))))) rfl (fun _ _ => rfl) (zOfr hJ.nx (by omega) (by omega)) ?_
     rintro zz ww2 ⟨q3, rfl, ez_q3, hi_q3, hB⟩
     exact ⟨_, rfl, hK _ _ ⟨hJ.later hB, hJb.trans (hB.mono hJb.size)⟩ ⟨q3, rfl, ez_q3, hi_q3⟩ (vzL_later hVS11 hB)⟩
    ·
     obtain ⟨q2, e2, ez_q2, hi_q2⟩ := (show (vnumr (((dval ((tw s 0).take (i - 0)) : Nat) : Int) * 10)) (uu 2) X ww from hd 2 (by decide) (by kernel_rfl))
     obtain ⟨q3, e8, ez_q3, hi_q3⟩ := (show (vnumr ((((chr s i : Nat) : Int) - 48))) (uu 8) X ww from hd 8 (by decide) (by kernel_rfl))
     replace hJ := hJ.more (f := q2.ir) q2.stbr hi_q2
     replace hJ := hJ.more (f := q3.ir) q3.stbr hi_q3
     refine .inr ⟨rfl, fun K' hK => ?_⟩
     refine wp_callz (.func 36) #[.tmp 51, .tmp 57] #[56, 56] 36 #[] #[q2.v, q3.v] _ rfl rfl (map2 (eval_tmp ((hin 2 51 rfl).trans (congrArg some e2))) (eval_tmp ((hin 8 57 rfl).trans (congrArg some e8)))) rfl (fun _ _ => rfl) (zAddr hJ.nx (hJ.get 1 (f := q2.ir) rfl) (hJ.get 0 (f := q3.ir) rfl) ez_q2 ez_q3 (Sz.mul (sz_of50 hpx) (sz_int (by omega) (by omega))) (sz_int (by omega) (by omega)) (by omega) (by omega)) ?_
     rintro zz ww2 ⟨q4, rfl, ez_q4, hi_q4, hB⟩
     exact ⟨_, rfl, hK _ _ ⟨(hJ.only [px.ir, q1.ir] (by simp)).later hB, hJb.trans (hB.mono hJb.size)⟩ ⟨q4, rfl, ez_q4, hi_q4⟩ (vzL_later hVS11 hB)⟩
   clear hM
   intro uu W6 hZ8p hd
   obtain ⟨hZ8, hb11⟩ := hZ8p
   have e_0 : uu 0 = px.v := hd 0 (by decide)
   have e_1 : uu 1 = q1.v := hd 1 (by decide)
   obtain ⟨q2, e_2, ez_q2, hi_q2⟩ := (show (vnumr (((dval ((tw s 0).take (i - 0)) : Nat) : Int) * 10)) (uu 2) X W6 from hd 2 (by decide))
   have e_3 : uu 3 = .string s := hd 3 (by decide)
   have e_4 : uu 4 = .int .i64 (((i : Nat) : Int)) := hd 4 (by decide)
   have e_5 : uu 5 = .int .u8 (((chr s i : Nat) : Int)) := hd 5 (by decide)
   have e_6 : uu 6 = .int .u8 ((((chr s i : Nat) : Int) - 48)) := hd 6 (by decide)
   have e_7 : uu 7 = .int .i64 ((((chr s i : Nat) : Int) - 48)) := hd 7 (by decide)
   obtain ⟨q3, e_8, ez_q3, hi_q3⟩ := (show (vnumr ((((chr s i : Nat) : Int) - 48))) (uu 8) X W6 from hd 8 (by decide))
   obtain ⟨q4, e_9, ez_q4, hi_q4⟩ := (show (vnumr ((((dval ((tw s 0).take (i - 0)) : Nat) : Int) * 10) + (((chr s i : Nat) : Int) - 48))) (uu 9) X W6 from hd 9 (by decide))
   clear hd hVS11
   simp only [layS, Act.put, zzC, zzD, zzE, Nat.zero_add, Nat.reduceAdd, List.drop_succ_cons, List.drop_zero, List.drop_nil, e_0, e_1, e_2, e_3, e_4, e_5, e_6, e_7, e_8, e_9]
   clear e_0 e_1 e_2 e_3 e_4 e_5 e_6 e_7 e_8 e_9
   have hZ9 := hZ8.more (f := q2.ir) q2.stbr hi_q2
   clear hZ8
   clear hi_q2
   have hZ10 := hZ9.more (f := q3.ir) q3.stbr hi_q3
   clear hZ9
   clear hi_q3
   have hZ11 := hZ10.more (f := q4.ir) q4.stbr hi_q4
   clear hZ10
   clear hi_q4
   go_wp2_with (refine stopz_store 56 (.tmp 7) (.tmp 58) 1 bk1 0 #[.bool px.b, .slice px.a px.n px.c] 56 2 [.bool q4.b, .slice q4.a q4.n q4.c] #[.bool q4.b, .slice q4.a q4.n q4.c] [(bk2, #[.bool q1.b, .slice q1.a q1.n q1.c], 56), (bk1, #[.bool q4.b, .slice q4.a q4.n q4.c], 56)] rfl rfl rfl rfl sz56 hZ11 rfl rfl (zzF (by kernel_rfl)) (by kernel_rfl) (by kernel_rfl) (by kernel_rfl) (fun W7 hZ12 => ?_))
   clear hZ11
   unfold Stop
   try simp only [Act.put, zzC, zzD, zzE]
   go_wp2_with (refine stop_op rfl (fun K hK => wp_addi (.tmp 59) (.const (.int .i64 1)) rfl rfl rfl (C := ((i + 1 : Nat) : Int)) (by omega) (by omega) (by omega) (hK _ _ ?_)))
   unfold Stop
   try simp only [Act.put, zzC, zzD, zzE]
   have hZ13 := hZ12.only [q4.ir, q1.ir] (by simp)
   clear hZ12
   go_wp2
   go_roundw
   case rel => exact ⟨i + 1, q4, _, by omega, by omega, by go_num, ez_q4.trans HV.out.symm, hZ13⟩
   case measure => simp [intOf]; omega
  ·
   obtain ⟨a, ha⟩ : ∃ a, a = (tw s 0).length := ⟨_, rfl⟩
   have hia : i = 0 + a := by omega
   have HI := Lib.hid hia
   have HA := Lib.hid ha
   have hz2 : px.z = ((dval (tw s 0) : Nat) : Int) := by rw [ez_px, List.take_of_length_le (by omega)]
   obtain ⟨ZZ, hZZ⟩ : ∃ z : Int, z = ((dval (tw s 0) : Nat) : Int) := ⟨_, rfl⟩
   rw [← hZZ] at hz2
   have HZZ := Lib.hid hZZ
   clear ez_px hpx hZZ
   have ez_px := hz2
   clear hz2
   have hend := tw_end2 s (g := 0) (i := i) HG.out (by omega)
   have hlq := len_eq s 0 HG.out
   have hi40 : i ≤ 40 := by omega
   clear h1 hi2 ha hia
   rcases hend with ⟨hdw, hsz⟩ | ⟨hi, hdw, hnd⟩
   ·
    have HDW := Lib.hid hdw
    have HSZ := Lib.hid hsz
    clear hdw hsz
    go_wp2_with (refine stop_op rfl (fun K hK => wp_lenst (.tmp 34) 9 (by kernel_rfl) rfl rfl (hK _ _ ?_)))
    unfold Stop
    try simp only [Act.put, zzC, zzD, zzE]
    go_wp2_with (refine stop_op rfl (fun K hK => wp_lssi (.tmp 33) (.tmp 35) rfl rfl rfl (r := false) (decide_eq_false (by have := HSZ.out; omega)) (hK _ _ ?_)))
    unfold Stop
    try simp only [Act.put, zzC, zzD, zzE]
    by_cases a0 : a = 0
    ·
     have HR : Hid (readsB s.data.toList = false) := ahead_bad HG.out HPD.out (.inl (by rw [← HA.out]; exact a0))
     have HA0 := Lib.hid a0
     clear a0
     go_wp2_with (refine stop_op rfl (fun K hK => wp_eqli (.tmp 61) (.tmp 62) 3 3 rfl rfl rfl rfl (r := true) (decide_eq_true (by have := HI.out; have := HA0.out; omega)) (hK _ _ ?_)))
     unfold Stop
     try simp only [Act.put, zzC, zzD, zzE]
     go_wp2
     exact bodyPost_ret (v := .tuple #[.int .i64 0, .bool false, .int .i64 10]) (by simp [results, Tryz.results7, go_sem]) rfl ⟨by rw [(fx_bad HR.out).1, (fx_bad HR.out).2.1, (fx_bad HR.out).2.2], hZ.below⟩
    ·
     by_cases az : 1 < a ∧ chr s 0 = 48
     ·
      have hf0 : 0 < s.size := by have := HA.out; omega
      have HR : Hid (readsB s.data.toList = false) := ahead_bad HG.out HPD.out (.inr ⟨by rw [← HA.out]; exact az.1, fun hi => by rw [← chr_eq hi]; exact az.2⟩)
      have HAZ := Lib.hid az
      clear az
      go_wp2_with (refine stop_op rfl (fun K hK => wp_eqli (.tmp 61) (.tmp 62) 3 3 rfl rfl rfl rfl (r := false) (decide_eq_false (by have := HI.out; omega)) (hK _ _ ?_)))
      unfold Stop
      try simp only [Act.put, zzC, zzD, zzE]
      go_wp2_with (refine stop_opw (by kernel_rfl) (fun K hK => wp_subi (.tmp 65) (.tmp 66) rfl rfl rfl (C := ((i - 0 : Nat) : Int)) (by omega) (by omega) (by omega) (hK _ _ ?_)))
      unfold Stop
      try simp only [Act.put, zzC, zzD, zzE]
      go_wp2_with (refine stop_opw (by kernel_rfl) (fun K hK => wp_gtri (.tmp 67) (.const (.int .i64 1)) rfl rfl rfl (r := true) (decide_eq_true (by have := HI.out; have := HAZ.out.1; omega)) (hK _ _ ?_)))
      unfold Stop
      try simp only [Act.put, zzC, zzD, zzE]
      go_wp2_with (refine stop_opw (by kernel_rfl) (fun K hK => wp_sidx 9 (.tmp 70) (.tmp 71) (by kernel_rfl) rfl rfl (i := 0) rfl (by omega) (hK _ _ ?_)))
      unfold Stop
      try simp only [Act.put, zzC, zzD, zzE]
      go_wp2_with (refine stop_opw (by kernel_rfl) (fun K hK => wp_eql8 (.tmp 72) (.const (.int .u8 48)) rfl rfl rfl (r := true) (decide_eq_true (by have := HAZ.out.2; omega)) (hK _ _ ?_)))
      unfold Stop
      try simp only [Act.put, zzC, zzD, zzE]
      go_wp2
      exact bodyPost_ret (v := .tuple #[.int .i64 0, .bool false, .int .i64 10]) (by simp [results, Tryz.results7, go_sem]) rfl ⟨by rw [(fx_bad HR.out).1, (fx_bad HR.out).2.1, (fx_bad HR.out).2.2], hZ.below⟩
     ·
      have hf0 : 0 < s.size := by have := HA.out; omega
      have HAZ := Lib.hid az
      clear az
      have HOK := Lib.hid (ahead_ok (s := s) (f := 0) HG.out (by rw [← HA.out]; omega) (by rw [← HA.out]; by_cases q : a = 1; exact .inl q; exact .inr (fun hi h => HAZ.out ⟨by omega, by rw [chr_eq hi]; exact h⟩)))
      go_upto_region 13 with fail
      go_cut [75] from 61 to 75 (fun c wx => c = .bool false ∧ wx = wr)
      case first =>
       by_cases q1 : 1 < a
       ·
        go_wp2_with (refine stop_op rfl (fun K hK => wp_eqli (.tmp 61) (.tmp 62) 3 3 rfl rfl rfl rfl (r := false) (decide_eq_false (by have := HI.out; omega)) (hK _ _ ?_)))
        unfold Stop
        try simp only [Act.put, zzC, zzD, zzE]
        go_wp2_with (refine stop_opw (by kernel_rfl) (fun K hK => wp_subi (.tmp 65) (.tmp 66) rfl rfl rfl (C := ((i - 0 : Nat) : Int)) (by omega) (by omega) (by omega) (hK _ _ ?_)))
        unfold Stop
        try simp only [Act.put, zzC, zzD, zzE]
        go_wp2_with (refine stop_opw (by kernel_rfl) (fun K hK => wp_gtri (.tmp 67) (.const (.int .i64 1)) rfl rfl rfl (r := true) (decide_eq_true (by have := HI.out; omega)) (hK _ _ ?_)))
        unfold Stop
        try simp only [Act.put, zzC, zzD, zzE]
        go_wp2_with (refine stop_opw (by kernel_rfl) (fun K hK => wp_sidx 9 (.tmp 70) (.tmp 71) (by kernel_rfl) rfl rfl (i := 0) rfl (by omega) (hK _ _ ?_)))
        unfold Stop
        try simp only [Act.put, zzC, zzD, zzE]
        go_wp2_with (refine stop_opw (by kernel_rfl) (fun K hK => wp_eql8 (.tmp 72) (.const (.int .u8 48)) rfl rfl rfl (r := false) (decide_eq_false (by intro h; exact HAZ.out ⟨q1, by omega⟩)) (hK _ _ ?_)))
        unfold Stop
        try simp only [Act.put, zzC, zzD, zzE]
        go_wp2
        go_meet
        exact ⟨rfl, rfl⟩
       ·
        go_wp2_with (refine stop_op rfl (fun K hK => wp_eqli (.tmp 61) (.tmp 62) 3 3 rfl rfl rfl rfl (r := false) (decide_eq_false (by have := HI.out; omega)) (hK _ _ ?_)))
        unfold Stop
        try simp only [Act.put, zzC, zzD, zzE]
        go_wp2_with (refine stop_opw (by kernel_rfl) (fun K hK => wp_subi (.tmp 65) (.tmp 66) rfl rfl rfl (C := ((i - 0 : Nat) : Int)) (by omega) (by omega) (by omega) (hK _ _ ?_)))
        unfold Stop
        try simp only [Act.put, zzC, zzD, zzE]
        go_wp2_with (refine stop_opw (by kernel_rfl) (fun K hK => wp_gtri (.tmp 67) (.const (.int .i64 1)) rfl rfl rfl (r := false) (decide_eq_false (by have := HI.out; omega)) (hK _ _ ?_)))
        unfold Stop
        try simp only [Act.put, zzC, zzD, zzE]
        go_wp2
        go_meet
        exact ⟨rfl, rfl⟩
      case rest =>
       obtain ⟨rfl, hwc⟩ := hcut
       have hwd := hwc.symm
       clear hwc
       subst hwd
       go_wp2_with fail
       refine (zOfr hZ.nx (by omega) (by omega)).mono ?_
       rintro zz W8 ⟨q5, rfl, ez_q5, hi_q5, hB⟩
       have hZ14 := hZ.later hB
       clear hB
       clear hZ
       have hZ15 := hZ14.more (f := q5.ir) q5.stbr hi_q5
       clear hZ14
       clear hi_q5
       go_wp2_with (refine stopz_alloc 56 #[.bool false, .slice none 0 0] (.agg #[.bool false, .slice none 0 0]) rfl rfl zv56 rfl hZ15 (fun bk3 X16 W9 hZ16 => ?_))
       clear hZ15
       unfold Stop
       try simp only [Act.put, zzC, zzD, zzE]
       go_wp2_with (refine stopz_store 56 (.tmp 10) (.tmp 76) 0 bk3 0 #[.bool false, .slice none 0 0] 56 2 [.bool q5.b, .slice q5.a q5.n q5.c] #[.bool q5.b, .slice q5.a q5.n q5.c] [(bk3, #[.bool q5.b, .slice q5.a q5.n q5.c], 56), (bk2, #[.bool q1.b, .slice q1.a q1.n q1.c], 56), (bk1, #[.bool px.b, .slice px.a px.n px.c], 56)] rfl rfl rfl rfl sz56 hZ16 rfl rfl (zzF (by kernel_rfl)) (by kernel_rfl) (by kernel_rfl) (by kernel_rfl) (fun W10 hZ17 => ?_))
       clear hZ16
       unfold Stop
       try simp only [Act.put, zzC, zzD, zzE]
       go_wp2_with (refine stop_op rfl (fun K hK => wp_lenst (.tmp 78) 9 (by kernel_rfl) rfl rfl (hK _ _ ?_)))
       unfold Stop
       try simp only [Act.put, zzC, zzD, zzE]
       go_wp2_with (refine stop_op rfl (fun K hK => wp_lssi (.tmp 77) (.tmp 79) rfl rfl rfl (r := false) (decide_eq_false (by have := HSZ.out; omega)) (hK _ _ ?_)))
       unfold Stop
       try simp only [Act.put, zzC, zzD, zzE]
       have HGD := Lib.hid (good_end (f := 0) (neg := false) (Z := ZZ) HG.out hs HPB.out HPD.out HDW.out HOK.out.1 HOK.out.2 HZZ.out)
       go_wp2_with (refine stop_op rfl (fun K hK => wp_load 56 (.tmp 7) rfl bk1 0 2 #[.bool px.b, .slice px.a px.n px.c] #[.bool px.b, .slice px.a px.n px.c] 56 (hZ17.es.at' _ (zzG (i := 2) rfl)) rfl ag56 sz56 (zzF (by kernel_rfl)) (by kernel_rfl) (hK _ _ ?_)))
       unfold Stop
       try simp only [Act.put, zzC, zzD, zzE]
       go_wp2_with fail
       refine (zSignr (hZ17.get 1 (f := px.ir) rfl) ez_px).mono ?_
       rintro zz W11 ⟨rfl, hB⟩
       have hZ18 := hZ17.later hB
       clear hB
       clear hZ17
       obtain ⟨rx, hx1, hx2, hx3, hx4, hx5⟩ : ∃ r : NR, r.b = px.b ∧ r.a = px.a ∧ r.n = px.n ∧ r.c = px.c ∧ r.z = px.z := ⟨⟨px.b, px.a, px.n, px.c, px.z⟩, rfl, rfl, rfl, rfl, rfl⟩
       obtain ⟨ry, hy1, hy2, hy3, hy4, hy5⟩ : ∃ r : NR, r.b = q5.b ∧ r.a = q5.a ∧ r.n = q5.n ∧ r.c = q5.c ∧ r.z = q5.z := ⟨⟨q5.b, q5.a, q5.n, q5.c, q5.z⟩, rfl, rfl, rfl, rfl, rfl⟩
       have hrx : NR.is rx W11 := by
        show RNum W11 rx.b rx.a rx.n rx.c rx.z
        rw [hx1, hx2, hx3, hx4, hx5]
        exact ((hZ18.get 1 (f := px.ir) rfl)).1
       have hry : NR.is ry W11 := by
        show RNum W11 ry.b ry.a ry.n ry.c ry.z
        rw [hy1, hy2, hy3, hy4, hy5]
        exact ((hZ18.get 0 (f := q5.ir) rfl)).1
       have hZ19e : Es w W11 [(bk3, #[.bool ry.b, .slice ry.a ry.n ry.c], 56), (bk2, #[.bool q1.b, .slice q1.a q1.n q1.c], 56), (bk1, #[.bool rx.b, .slice rx.a rx.n rx.c], 56)] := by
        rw [hx1, hx2, hx3, hx4, hy1, hy2, hy3, hy4]
        exact hZ18.es
       have hZ19 : En w W11 [(bk3, #[.bool ry.b, .slice ry.a ry.n ry.c], 56), (bk2, #[.bool q1.b, .slice q1.a q1.n q1.c], 56), (bk1, #[.bool rx.b, .slice rx.a rx.n rx.c], 56)] [ry, rx] := ⟨hZ19e, fun r hr => by
        rcases List.mem_cons.1 hr with rfl | hr
        ·
         exact hry
        ·
         rcases List.mem_cons.1 hr with rfl | hr
         ·
          exact hrx
         ·
          cases hr⟩
       obtain ⟨XX, hXX⟩ : ∃ x : Int, x = ZZ := ⟨_, rfl⟩
       obtain ⟨YY, hYY⟩ : ∃ y : Int, y = 1 := ⟨_, rfl⟩
       have Hz_rx : Hid (rx.z = XX) := by show _ = _; rw [hx5, hXX]; exact ez_px
       have Hz_ry : Hid (ry.z = YY) := by show _ = _; rw [hy5, hYY]; exact ez_q5
       have hX50 : XX.natAbs < 10 ^ 50 := by rw [hXX]; exact HGD.out.2.2.2.1
       have hY50 : 0 < YY ∧ YY.natAbs < 10 ^ 50 := by rw [hYY]; exact HGD.out.2.2.2.2
       have HFQ : Hid (readsB s.data.toList = true ∧ fQ s.data.toList = flo (XX * 1048576) YY) := by
        show _ ∧ _
        rw [hXX, hYY]
        exact ⟨HGD.out.1, HGD.out.2.1⟩
       have hm60 := g60m hX50
       have Hone := Lib.hid dOne
       have Hmu := Lib.hid (gMul (x := XX) (y := 1048576) (g60 hX50).1 (g60s2))
       have Hq := Lib.hid (gQuo (x := XX * 1048576) (y := YY) hm60 hY50.1 (g60 hY50.2).1)
       have Hc := Lib.hid (gCut (flo60 hm60 hY50.1))
       clear hx1 hx2 hx3 hx4 hx5 hy1 hy2 hy3 hy4 hy5 hZ19e hrx hry hXX hYY hX50 hY50 hm60 hZ18 ez_px ez_q5
       go_wp2
       obtain ⟨m32_500, hm⟩ : ∃ m, m = W11.heap.size := ⟨_, rfl⟩
       have hM : ∀ uu, Jn w m32_500 [(bk3, #[.bool ry.b, .slice ry.a ry.n ry.c], 56), (bk2, #[.bool q1.b, .slice q1.a q1.n q1.c], 56), (bk1, #[.bool rx.b, .slice rx.a rx.n rx.c], 56)] [ry, rx] [(9, 2, 56), (10, 2, 56)] [(11, 9, 6, 56), (12, 10, 7, 56)] (fun _ => false) uu W11.drew := fun uu => by rw [hm]; exact Jn.start hZ19 uu
       clear hm hZ19
       refine wp_region_y 14 [some 142, some 143, some 144, some 145, some 146, some 141, some 147, some 148, some 149, some 13, some 14, none, none, some 15] (vnL [.eq (.agg #[.bool rx.b, .slice rx.a rx.n rx.c]), .num (1048576), .num (XX * 1048576), .eq (.agg #[.bool ry.b, .slice ry.a ry.n ry.c]), .num2 (flo (XX * 1048576) YY) (.int .i64 0), .num2 (flo (XX * 1048576) YY) (.int .i64 0), .num (flo (XX * 1048576) YY), .numu, .eq (.int .i64 0), .any, .any, .any, .any, .eq (.int .i64 0)]) (Jn w m32_500 [(bk3, #[.bool ry.b, .slice ry.a ry.n ry.c], 56), (bk2, #[.bool q1.b, .slice q1.a q1.n q1.c], 56), (bk1, #[.bool rx.b, .slice rx.a rx.n rx.c], 56)] [ry, rx] [(9, 2, 56), (10, 2, 56)] [(11, 9, 6, 56), (12, 10, 7, 56)]) (by kernel_rfl) (by kernel_rfl) (by rfl) (by decide) (by rfl) hM ?_ ?_
       ·
        intro i hl hi LL uu ww aa hLi hJ hd hev hin
        clear hM
        obtain rfl | rfl | rfl | rfl | rfl | rfl | rfl | rfl | rfl | rfl | rfl | rfl | rfl | rfl : i = 0 ∨ i = 1 ∨ i = 2 ∨ i = 3 ∨ i = 4 ∨ i = 5 ∨ i = 6 ∨ i = 7 ∨ i = 8 ∨ i = 9 ∨ i = 10 ∨ i = 11 ∨ i = 12 ∨ i = 13 := by omega
        ·
         have x7 : aa.tmps[7]? = some (.pointer (some ⟨bk1, 0, none⟩)) := (hev 7 (by decide)).trans rfl
         clear hd hev hin
         simp only [zzA, zzB]
         clear hl
         refine .inr ⟨rfl, fun K' hK => ?_⟩
         have HK := Lib.hid hK
         clear hK
         have f0 : ww.cell? ⟨bk1, 0, none⟩ = some (.bool rx.b) := hJ.em.es.cell 2 rfl 0 rfl
         have f1 : ww.cell? ⟨bk1, 1, none⟩ = some (.slice rx.a rx.n rx.c) := hJ.em.es.cell 2 rfl 1 rfl
         go_simp
         exact HK.out (.agg #[.bool rx.b, .slice rx.a rx.n rx.c]) _ (hJ.grow hLi (by simp) (by simp) (Below.refl _ _)) rfl vnL_same
        ·
         clear hd hev hin
         simp only [zzA, zzB]
         clear hl
         refine .inr ⟨rfl, fun K' hK => ?_⟩
         have HK := Lib.hid hK
         clear hK
         go_simp
         refine (Hone.out ww).mono ?_
         rintro zz W' ⟨py0, hzy0, rfl, ipy0, hB⟩
         exact HK.out (.agg #[.bool py0.b, .slice py0.a py0.n py0.c]) _ (hJ.grow hLi (by simp) (by simp) hB) ⟨py0, hzy0, rfl, ipy0⟩ (vnL_later hB)
        ·
         have x142 : aa.tmps[142]? = some (.agg #[.bool rx.b, .slice rx.a rx.n rx.c]) := zzH (hin 0 142 rfl) (hd 0 (by decide) (by kernel_rfl)).2
         obtain ⟨q1, z1, e1, iq1⟩ := (show vnP (.num (1048576)) (uu 1) ww from (hd 1 (by decide) (by kernel_rfl)).2)
         have x143 : aa.tmps[143]? = some (.agg #[.bool q1.b, .slice q1.a q1.n q1.c]) := (hin 1 143 rfl).trans (congrArg some e1)
         clear hd hev hin
         simp only [zzA, zzB]
         clear hl
         refine .inr ⟨rfl, fun K' hK => ?_⟩
         have HK := Lib.hid hK
         clear hK
         go_simp
         refine (Hmu.out rx q1 ww Hz_rx.out z1 (hJ.num rx (by simp)) iq1).mono ?_
         rintro zz W' ⟨py0, hzy0, rfl, ipy0, hB⟩
         exact HK.out (.agg #[.bool py0.b, .slice py0.a py0.n py0.c]) _ (hJ.grow hLi (by simp) (by simp) hB) ⟨py0, hzy0, rfl, ipy0⟩ (vnL_later hB)
        ·
         have x10 : aa.tmps[10]? = some (.pointer (some ⟨bk3, 0, none⟩)) := (hev 10 (by decide)).trans rfl
         clear hd hev hin
         simp only [zzA, zzB]
         clear hl
         refine .inr ⟨rfl, fun K' hK => ?_⟩
         have HK := Lib.hid hK
         clear hK
         have f0 : ww.cell? ⟨bk3, 0, none⟩ = some (.bool ry.b) := hJ.em.es.cell 0 rfl 0 rfl
         have f1 : ww.cell? ⟨bk3, 1, none⟩ = some (.slice ry.a ry.n ry.c) := hJ.em.es.cell 0 rfl 1 rfl
         go_simp
         exact HK.out (.agg #[.bool ry.b, .slice ry.a ry.n ry.c]) _ (hJ.grow hLi (by simp) (by simp) (Below.refl _ _)) rfl vnL_same
        ·
         obtain ⟨q2, z2, e2, iq2⟩ := (show vnP (.num (XX * 1048576)) (uu 2) ww from (hd 2 (by decide) (by kernel_rfl)).2)
         have x144 : aa.tmps[144]? = some (.agg #[.bool q2.b, .slice q2.a q2.n q2.c]) := (hin 2 144 rfl).trans (congrArg some e2)
         have x145 : aa.tmps[145]? = some (.agg #[.bool ry.b, .slice ry.a ry.n ry.c]) := zzH (hin 3 145 rfl) (hd 3 (by decide) (by kernel_rfl)).2
         clear hd hev hin
         simp only [zzA, zzB]
         clear hl
         refine .inr ⟨rfl, fun K' hK => ?_⟩
         have HK := Lib.hid hK
         clear hK
         go_simp
         refine (Hq.out q2 ry ww z2 Hz_ry.out iq2 (hJ.num ry (by simp))).mono ?_
         rintro zz W' ⟨py0, py1, hzy0, rfl, ipy0, ipy1, hB⟩
         exact HK.out (.tuple #[.agg #[.bool py0.b, .slice py0.a py0.n py0.c], .agg #[.bool py1.b, .slice py1.a py1.n py1.c], .int .i64 0]) _ (hJ.grow hLi (by simp) (by simp) hB) ⟨py0, py1, hzy0, rfl, ipy0, ipy1⟩ (vnL_later hB)
        ·
         obtain ⟨q4, q4r, z4, e4, iq4, iq4r⟩ := (show vnP (.num2 (flo (XX * 1048576) YY) (.int .i64 0)) (uu 4) ww from (hd 4 (by decide) (by kernel_rfl)).2)
         have x146 : aa.tmps[146]? = some (.tuple #[.agg #[.bool q4.b, .slice q4.a q4.n q4.c], .agg #[.bool q4r.b, .slice q4r.a q4r.n q4r.c], .int .i64 0]) := (hin 4 146 rfl).trans (congrArg some e4)
         clear hd hev hin
         simp only [zzA, zzB]
         clear hl
         refine .inr ⟨rfl, fun K' hK => ?_⟩
         have HK := Lib.hid hK
         clear hK
         go_simp
         exact HK.out (.tuple #[.agg #[.bool q4.b, .slice q4.a q4.n q4.c], .agg #[.bool q4r.b, .slice q4r.a q4r.n q4r.c], .int .i64 0]) _ (hJ.grow hLi (by simp) (by simp) (Below.refl _ _)) ⟨q4, q4r, z4, rfl, iq4, iq4r⟩ vnL_same
        ·
         obtain ⟨q5, q5r, z5, e5, iq5, iq5r⟩ := (show vnP (.num2 (flo (XX * 1048576) YY) (.int .i64 0)) (uu 5) ww from (hd 5 (by decide) (by kernel_rfl)).2)
         have x141 : aa.tmps[141]? = some (.tuple #[.agg #[.bool q5.b, .slice q5.a q5.n q5.c], .agg #[.bool q5r.b, .slice q5r.a q5r.n q5r.c], .int .i64 0]) := (hin 5 141 rfl).trans (congrArg some e5)
         clear hd hev hin
         simp only [zzA, zzB]
         clear hl
         refine .inr ⟨rfl, fun K' hK => ?_⟩
         have HK := Lib.hid hK
         clear hK
         go_simp
         exact HK.out (.agg #[.bool q5.b, .slice q5.a q5.n q5.c]) _ (hJ.grow hLi (by simp) (by simp) (Below.refl _ _)) ⟨q5, z5, rfl, iq5⟩ vnL_same
        ·
         obtain ⟨q5, q5r, z5, e5, iq5, iq5r⟩ := (show vnP (.num2 (flo (XX * 1048576) YY) (.int .i64 0)) (uu 5) ww from (hd 5 (by decide) (by kernel_rfl)).2)
         have x141 : aa.tmps[141]? = some (.tuple #[.agg #[.bool q5.b, .slice q5.a q5.n q5.c], .agg #[.bool q5r.b, .slice q5r.a q5r.n q5r.c], .int .i64 0]) := (hin 5 141 rfl).trans (congrArg some e5)
         clear hd hev hin
         simp only [zzA, zzB]
         clear hl
         refine .inr ⟨rfl, fun K' hK => ?_⟩
         have HK := Lib.hid hK
         clear hK
         go_simp
         exact HK.out (.agg #[.bool q5r.b, .slice q5r.a q5r.n q5r.c]) _ (hJ.grow hLi (by simp) (by simp) (Below.refl _ _)) ⟨q5r, rfl, iq5r⟩ vnL_same
        ·
         obtain ⟨q5, q5r, z5, e5, iq5, iq5r⟩ := (show vnP (.num2 (flo (XX * 1048576) YY) (.int .i64 0)) (uu 5) ww from (hd 5 (by decide) (by kernel_rfl)).2)
         have x141 : aa.tmps[141]? = some (.tuple #[.agg #[.bool q5.b, .slice q5.a q5.n q5.c], .agg #[.bool q5r.b, .slice q5r.a q5r.n q5r.c], .int .i64 0]) := (hin 5 141 rfl).trans (congrArg some e5)
         clear hd hev hin
         simp only [zzA, zzB]
         clear hl
         refine .inr ⟨rfl, fun K' hK => ?_⟩
         have HK := Lib.hid hK
         clear hK
         go_simp
         exact HK.out (.int .i64 0) _ (hJ.grow hLi (by simp) (by simp) (Below.refl _ _)) rfl vnL_same
        ·
         clear hd hev hin
         simp only [zzA, zzB]
         clear hl
         refine .inr ⟨rfl, fun K' hK => ?_⟩
         have HK := Lib.hid hK
         clear hK
         refine wp_alloc 56 rfl (.agg #[.bool false, .slice none 0 0]) zv56 ?_
         exact HK.out _ _ (hJ.alloc hLi (n := 2) rfl (by kernel_rfl) (by simp) (by simp)) trivial (vnL_later ((Below.refl _ _).alloc (Nat.le_refl _) _))
        ·
         clear hd hev hin
         simp only [zzA, zzB]
         clear hl
         refine .inr ⟨rfl, fun K' hK => ?_⟩
         have HK := Lib.hid hK
         clear hK
         refine wp_alloc 56 rfl (.agg #[.bool false, .slice none 0 0]) zv56 ?_
         exact HK.out _ _ (hJ.alloc hLi (n := 2) rfl (by kernel_rfl) (by simp) (by simp)) trivial (vnL_later ((Below.refl _ _).alloc (Nat.le_refl _) _))
        ·
         have hLa := (hd 9 (by decide) (by kernel_rfl)).1
         obtain ⟨kb, kC, ke, kge, ksz, kno, kcl⟩ := hJ.bx (9, 2, 56) (by simp) hLa
         have x13 : aa.tmps[13]? = some (.pointer (some ⟨kb, 0, none⟩)) := (hin 9 13 rfl).trans (congrArg some ke)
         obtain ⟨q6, z6, e6, iq6⟩ := (show vnP (.num (flo (XX * 1048576) YY)) (uu 6) ww from (hd 6 (by decide) (by kernel_rfl)).2)
         have x147 : aa.tmps[147]? = some (.agg #[.bool q6.b, .slice q6.a q6.n q6.c]) := (hin 6 147 rfl).trans (congrArg some e6)
         have hLx := (hd 6 (by decide) (by kernel_rfl)).1
         clear hd hev hin
         simp only [zzA, zzB]
         clear hl
         refine .inr ⟨rfl, fun K' hK => ?_⟩
         have HK := Lib.hid hK
         clear hK
         refine wp_store 56 (.tmp 13) (.tmp 147) rfl 0 kb 0 kC 56 2 [.bool q6.b, .slice q6.a q6.n q6.c] (hJ.em.join kge kcl) rfl (eval_tmp x13) (by rw [eval_tmp x147]; rfl) sz56 rfl (by rw [ksz]; decide) (by kernel_rfl) (fun ww2 hE hk hz => ?_)
         rw [putC_full (show kC.size = ([.bool q6.b, .slice q6.a q6.n q6.c] : List Value).length from ksz)] at hE
         exact HK.out undef _ (hJ.store (a := 9) (x := 6) (n := 2) (T := 56) (Cn := #[.bool q6.b, .slice q6.a q6.n q6.c]) hLi (by simp) (by simp) (by simp) (by simp) (by simp) (by simp) hLa hLx ke kge rfl (by kernel_rfl) (by rw [e6]; rfl) kcl kno hE hk hz) trivial (vnL_store kcl kno hk hz)
        ·
         have hLa := (hd 10 (by decide) (by kernel_rfl)).1
         obtain ⟨kb, kC, ke, kge, ksz, kno, kcl⟩ := hJ.bx (10, 2, 56) (by simp) hLa
         have x14 : aa.tmps[14]? = some (.pointer (some ⟨kb, 0, none⟩)) := (hin 10 14 rfl).trans (congrArg some ke)
         obtain ⟨q7, e7, iq7⟩ := (show vnP (.numu) (uu 7) ww from (hd 7 (by decide) (by kernel_rfl)).2)
         have x148 : aa.tmps[148]? = some (.agg #[.bool q7.b, .slice q7.a q7.n q7.c]) := (hin 7 148 rfl).trans (congrArg some e7)
         have hLx := (hd 7 (by decide) (by kernel_rfl)).1
         clear hd hev hin
         simp only [zzA, zzB]
         clear hl
         refine .inr ⟨rfl, fun K' hK => ?_⟩
         have HK := Lib.hid hK
         clear hK
         refine wp_store 56 (.tmp 14) (.tmp 148) rfl 0 kb 0 kC 56 2 [.bool q7.b, .slice q7.a q7.n q7.c] (hJ.em.join kge kcl) rfl (eval_tmp x14) (by rw [eval_tmp x148]; rfl) sz56 rfl (by rw [ksz]; decide) (by kernel_rfl) (fun ww2 hE hk hz => ?_)
         rw [putC_full (show kC.size = ([.bool q7.b, .slice q7.a q7.n q7.c] : List Value).length from ksz)] at hE
         exact HK.out undef _ (hJ.store (a := 10) (x := 7) (n := 2) (T := 56) (Cn := #[.bool q7.b, .slice q7.a q7.n q7.c]) hLi (by simp) (by simp) (by simp) (by simp) (by simp) (by simp) hLa hLx ke kge rfl (by kernel_rfl) (by rw [e7]; rfl) kcl kno hE hk hz) trivial (vnL_store kcl kno hk hz)
        ·
         have x149 : aa.tmps[149]? = some (.int .i64 0) := zzH (hin 8 149 rfl) (hd 8 (by decide) (by kernel_rfl)).2
         clear hd hev hin
         simp only [zzA, zzB]
         clear hl
         refine .inr ⟨rfl, fun K' hK => ?_⟩
         have HK := Lib.hid hK
         clear hK
         go_simp
         exact HK.out (.int .i64 0) _ (hJ.grow hLi (by simp) (by simp) (Below.refl _ _)) rfl vnL_same
       clear hM
       intro LL uu W501 hLL hJm hd
       have e_0 : uu 0 = .agg #[.bool rx.b, .slice rx.a rx.n rx.c] := hd 0 (by decide)
       obtain ⟨pn1, hz_pn1, e_1, hi_pn1⟩ := (show vnP (.num (1048576)) (uu 1) W501 from hd 1 (by decide))
       have Hz_pn1 := Lib.hid hz_pn1
       clear hz_pn1
       obtain ⟨pn2, hz_pn2, e_2, hi_pn2⟩ := (show vnP (.num (XX * 1048576)) (uu 2) W501 from hd 2 (by decide))
       have Hz_pn2 := Lib.hid hz_pn2
       clear hz_pn2
       have e_3 : uu 3 = .agg #[.bool ry.b, .slice ry.a ry.n ry.c] := hd 3 (by decide)
       obtain ⟨pn3, pn4, hz_pn3, e_4, hi_pn3, hi_pn4⟩ := (show vnP (.num2 (flo (XX * 1048576) YY) (.int .i64 0)) (uu 4) W501 from hd 4 (by decide))
       have Hz_pn3 := Lib.hid hz_pn3
       clear hz_pn3
       obtain ⟨pn5, pn6, hz_pn5, e_5, hi_pn5, hi_pn6⟩ := (show vnP (.num2 (flo (XX * 1048576) YY) (.int .i64 0)) (uu 5) W501 from hd 5 (by decide))
       have Hz_pn5 := Lib.hid hz_pn5
       clear hz_pn5
       obtain ⟨pn7, hz_pn7, e_6, hi_pn7⟩ := (show vnP (.num (flo (XX * 1048576) YY)) (uu 6) W501 from hd 6 (by decide))
       have Hz_pn7 := Lib.hid hz_pn7
       clear hz_pn7
       obtain ⟨pn8, e_7, hi_pn8⟩ := (show vnP (.numu) (uu 7) W501 from hd 7 (by decide))
       have e_8 : uu 8 = .int .i64 0 := hd 8 (by decide)
       obtain ⟨bk51, kC9, e_9, nge9, ksz9, kno9, nB9⟩ := hJm.bx (9, 2, 56) (by simp) (hLL 9 (by decide))
       obtain ⟨bk52, kC10, e_10, nge10, ksz10, kno10, nB10⟩ := hJm.bx (10, 2, 56) (by simp) (hLL 10 (by decide))
       have e_13 : uu 13 = .int .i64 0 := hd 13 (by decide)
       obtain ⟨_, _, kb11, ke11, kl11⟩ := hJm.st (11, 9, 6, 56) (by simp) (hLL 11 (by decide))
       have kq11 : kb11 = bk51 := by
        have hq := ke11.symm.trans e_9
        injection hq with hq
        injection hq with hq
        injection hq with hq
       subst kq11
       clear ke11
       replace kl11 : Cl W501 (kb11, #[.bool pn7.b, .slice pn7.a pn7.n pn7.c], 56) := by
        rw [show (uu (11, 9, 6, 56).2.2.1) = _ from e_6] at kl11
        exact kl11
       obtain ⟨_, _, kb12, ke12, kl12⟩ := hJm.st (12, 10, 7, 56) (by simp) (hLL 12 (by decide))
       have kq12 : kb12 = bk52 := by
        have hq := ke12.symm.trans e_10
        injection hq with hq
        injection hq with hq
        injection hq with hq
       subst kq12
       clear ke12
       replace kl12 : Cl W501 (kb12, #[.bool pn8.b, .slice pn8.a pn8.n pn8.c], 56) := by
        rw [show (uu (12, 10, 7, 56).2.2.1) = _ from e_7] at kl12
        exact kl12
       have g9 := hJm.em.join nge9 kl11
       have g10 : Es w W501 _ := Es.join g9 (Nat.le_trans hJm.em.ge nge10) (by
        intro p hp
        rcases List.mem_cons.1 hp with rfl | hp
        ·
         intro hc
         refine hJm.ne (9, 2, 56) (10, 2, 56) (by simp) (by simp) (by decide) (hLL 9 (by decide)) (hLL 10 (by decide)) ?_
         rw [e_9, e_10]
         exact congrArg (fun k => Value.pointer (some ⟨k, 0, none⟩)) hc
        have h1 := hJm.em.lt p hp
        have h2 := nge10
        omega) kl12
       clear hd hLL
       simp only [layS, Act.put, zzC, zzD, zzE, Nat.zero_add, Nat.reduceAdd, List.drop_succ_cons, List.drop_zero, List.drop_nil, e_0, e_1, e_2, e_3, e_4, e_5, e_6, e_7, e_8, e_9, e_10, e_13]
       have hJ501 := (((((((((⟨g10, hJm.num⟩ : En w W501 [(kb12, #[.bool pn8.b, .slice pn8.a pn8.n pn8.c], 56), (kb11, #[.bool pn7.b, .slice pn7.a pn7.n pn7.c], 56), (bk3, #[.bool ry.b, .slice ry.a ry.n ry.c], 56), (bk2, #[.bool q1.b, .slice q1.a q1.n q1.c], 56), (bk1, #[.bool rx.b, .slice rx.a rx.n rx.c], 56)] [ry, rx])).more hi_pn1).more hi_pn2).more hi_pn3).more hi_pn4).more hi_pn5).more hi_pn6).more hi_pn7).more hi_pn8
       clear hJm e_0 e_1 e_2 e_3 e_4 e_5 e_6 e_7 e_8 e_9 e_10 e_13 nge9 nB9 ksz9 kno9 g9 nge10 nB10 ksz10 kno10 g10 hi_pn1 hi_pn2 hi_pn3 hi_pn4 hi_pn5 hi_pn6 hi_pn7 hi_pn8
       have f0 : W501.cell? ⟨kb11, 0, none⟩ = some (.bool pn7.b) := hJ501.cell 1 rfl 0 rfl
       have f1 : W501.cell? ⟨kb11, 1, none⟩ = some (.slice pn7.a pn7.n pn7.c) := hJ501.cell 1 rfl 1 rfl
       go_wp2_with fail
       refine (Hc.out pn7 _ Hz_pn7.out (hJ501.num pn7 (by simp))).mono ?_
       rintro zz W502 ⟨rfl, hB⟩
       have hJ502 := hJ501.later hB
       clear hB
       clear f0 f1
       clear hJ501
       go_wp2
       exact bodyPost_ret (v := .tuple #[.int .i64 (cutI (flo (XX * 1048576) YY)), .bool (cutB (flo (XX * 1048576) YY)), .int .i64 0]) (by simp [results, Tryz.results7, go_sem]) rfl ⟨by rw [(fx_good HFQ.out.1).1, (fx_good HFQ.out.1).2.1, (fx_good HFQ.out.1).2.2, HFQ.out.2], hJ502.below⟩
   ·
    have HDW := Lib.hid hdw
    clear hdw
    have hch := nd_chr hi hnd
    clear hnd
    go_upto_region 10 with fail
    go_cut [48] from 33 to 60 (fun c wx => c = .bool false ∧ wx = wr)
    case first =>
     by_cases hk : chr s i < 48
     ·
      go_wp2_with (refine stop_op rfl (fun K hK => wp_lenst (.tmp 34) 9 (by kernel_rfl) rfl rfl (hK _ _ ?_)))
      unfold Stop
      try simp only [Act.put, zzC, zzD, zzE]
      go_wp2_with (refine stop_op rfl (fun K hK => wp_lssi (.tmp 33) (.tmp 35) rfl rfl rfl (r := true) (decide_eq_true (by omega)) (hK _ _ ?_)))
      unfold Stop
      try simp only [Act.put, zzC, zzD, zzE]
      go_wp2_with (refine stop_opw (by kernel_rfl) (fun K hK => wp_sidx 9 (.tmp 38) (.tmp 39) (by kernel_rfl) rfl rfl (i := i) rfl (by omega) (hK _ _ ?_)))
      unfold Stop
      try simp only [Act.put, zzC, zzD, zzE]
      go_wp2_with (refine stop_opw (by kernel_rfl) (fun K hK => wp_geq8 (.tmp 40) (.const (.int .u8 48)) rfl rfl rfl (r := false) (decide_eq_false (by omega)) (hK _ _ ?_)))
      unfold Stop
      try simp only [Act.put, zzC, zzD, zzE]
      go_wp2
      go_meet
      exact ⟨rfl, rfl⟩
     ·
      go_wp2_with (refine stop_op rfl (fun K hK => wp_lenst (.tmp 34) 9 (by kernel_rfl) rfl rfl (hK _ _ ?_)))
      unfold Stop
      try simp only [Act.put, zzC, zzD, zzE]
      go_wp2_with (refine stop_op rfl (fun K hK => wp_lssi (.tmp 33) (.tmp 35) rfl rfl rfl (r := true) (decide_eq_true (by omega)) (hK _ _ ?_)))
      unfold Stop
      try simp only [Act.put, zzC, zzD, zzE]
      go_wp2_with (refine stop_opw (by kernel_rfl) (fun K hK => wp_sidx 9 (.tmp 38) (.tmp 39) (by kernel_rfl) rfl rfl (i := i) rfl (by omega) (hK _ _ ?_)))
      unfold Stop
      try simp only [Act.put, zzC, zzD, zzE]
      go_wp2_with (refine stop_opw (by kernel_rfl) (fun K hK => wp_geq8 (.tmp 40) (.const (.int .u8 48)) rfl rfl rfl (r := true) (decide_eq_true (by omega)) (hK _ _ ?_)))
      unfold Stop
      try simp only [Act.put, zzC, zzD, zzE]
      go_wp2_with (refine stop_opw (by kernel_rfl) (fun K hK => wp_sidx 9 (.tmp 44) (.tmp 45) (by kernel_rfl) rfl rfl (i := i) rfl (by omega) (hK _ _ ?_)))
      unfold Stop
      try simp only [Act.put, zzC, zzD, zzE]
      go_wp2_with (refine stop_opw (by kernel_rfl) (fun K hK => wp_leq8 (.tmp 46) (.const (.int .u8 57)) rfl rfl rfl (r := false) (decide_eq_false (by omega)) (hK _ _ ?_)))
      unfold Stop
      try simp only [Act.put, zzC, zzD, zzE]
      go_wp2
      go_meet
      exact ⟨rfl, rfl⟩
    case rest =>
     obtain ⟨rfl, hwc⟩ := hcut
     have hwd := hwc.symm
     clear hwc
     subst hwd
     by_cases a0 : a = 0
     ·
      have HR : Hid (readsB s.data.toList = false) := ahead_bad HG.out HPD.out (.inl (by rw [← HA.out]; exact a0))
      have HA0 := Lib.hid a0
      clear a0
      go_wp2_with (refine stop_op rfl (fun K hK => wp_eqli (.tmp 61) (.tmp 62) 3 3 rfl rfl rfl rfl (r := true) (decide_eq_true (by have := HI.out; have := HA0.out; omega)) (hK _ _ ?_)))
      unfold Stop
      try simp only [Act.put, zzC, zzD, zzE]
      go_wp2
      exact bodyPost_ret (v := .tuple #[.int .i64 0, .bool false, .int .i64 10]) (by simp [results, Tryz.results7, go_sem]) rfl ⟨by rw [(fx_bad HR.out).1, (fx_bad HR.out).2.1, (fx_bad HR.out).2.2], hZ.below⟩
     ·
      by_cases az : 1 < a ∧ chr s 0 = 48
      ·
       have hf0 : 0 < s.size := by have := HA.out; omega
       have HR : Hid (readsB s.data.toList = false) := ahead_bad HG.out HPD.out (.inr ⟨by rw [← HA.out]; exact az.1, fun hi => by rw [← chr_eq hi]; exact az.2⟩)
       have HAZ := Lib.hid az
       clear az
       go_wp2_with (refine stop_op rfl (fun K hK => wp_eqli (.tmp 61) (.tmp 62) 3 3 rfl rfl rfl rfl (r := false) (decide_eq_false (by have := HI.out; omega)) (hK _ _ ?_)))
       unfold Stop
       try simp only [Act.put, zzC, zzD, zzE]
       go_wp2_with (refine stop_opw (by kernel_rfl) (fun K hK => wp_subi (.tmp 65) (.tmp 66) rfl rfl rfl (C := ((i - 0 : Nat) : Int)) (by omega) (by omega) (by omega) (hK _ _ ?_)))
       unfold Stop
       try simp only [Act.put, zzC, zzD, zzE]
       go_wp2_with (refine stop_opw (by kernel_rfl) (fun K hK => wp_gtri (.tmp 67) (.const (.int .i64 1)) rfl rfl rfl (r := true) (decide_eq_true (by have := HI.out; have := HAZ.out.1; omega)) (hK _ _ ?_)))
       unfold Stop
       try simp only [Act.put, zzC, zzD, zzE]
       go_wp2_with (refine stop_opw (by kernel_rfl) (fun K hK => wp_sidx 9 (.tmp 70) (.tmp 71) (by kernel_rfl) rfl rfl (i := 0) rfl (by omega) (hK _ _ ?_)))
       unfold Stop
       try simp only [Act.put, zzC, zzD, zzE]
       go_wp2_with (refine stop_opw (by kernel_rfl) (fun K hK => wp_eql8 (.tmp 72) (.const (.int .u8 48)) rfl rfl rfl (r := true) (decide_eq_true (by have := HAZ.out.2; omega)) (hK _ _ ?_)))
       unfold Stop
       try simp only [Act.put, zzC, zzD, zzE]
       go_wp2
       exact bodyPost_ret (v := .tuple #[.int .i64 0, .bool false, .int .i64 10]) (by simp [results, Tryz.results7, go_sem]) rfl ⟨by rw [(fx_bad HR.out).1, (fx_bad HR.out).2.1, (fx_bad HR.out).2.2], hZ.below⟩
      ·
       have hf0 : 0 < s.size := by have := HA.out; omega
       have HAZ := Lib.hid az
       clear az
       have HOK := Lib.hid (ahead_ok (s := s) (f := 0) HG.out (by rw [← HA.out]; omega) (by rw [← HA.out]; by_cases q : a = 1; exact .inl q; exact .inr (fun hi h => HAZ.out ⟨by omega, by rw [chr_eq hi]; exact h⟩)))
       go_upto_region 13 with fail
       go_cut [75] from 61 to 75 (fun c wx => c = .bool false ∧ wx = wr)
       case first =>
        by_cases q1 : 1 < a
        ·
         go_wp2_with (refine stop_op rfl (fun K hK => wp_eqli (.tmp 61) (.tmp 62) 3 3 rfl rfl rfl rfl (r := false) (decide_eq_false (by have := HI.out; omega)) (hK _ _ ?_)))
         unfold Stop
         try simp only [Act.put, zzC, zzD, zzE]
         go_wp2_with (refine stop_opw (by kernel_rfl) (fun K hK => wp_subi (.tmp 65) (.tmp 66) rfl rfl rfl (C := ((i - 0 : Nat) : Int)) (by omega) (by omega) (by omega) (hK _ _ ?_)))
         unfold Stop
         try simp only [Act.put, zzC, zzD, zzE]
         go_wp2_with (refine stop_opw (by kernel_rfl) (fun K hK => wp_gtri (.tmp 67) (.const (.int .i64 1)) rfl rfl rfl (r := true) (decide_eq_true (by have := HI.out; omega)) (hK _ _ ?_)))
         unfold Stop
         try simp only [Act.put, zzC, zzD, zzE]
         go_wp2_with (refine stop_opw (by kernel_rfl) (fun K hK => wp_sidx 9 (.tmp 70) (.tmp 71) (by kernel_rfl) rfl rfl (i := 0) rfl (by omega) (hK _ _ ?_)))
         unfold Stop
         try simp only [Act.put, zzC, zzD, zzE]
         go_wp2_with (refine stop_opw (by kernel_rfl) (fun K hK => wp_eql8 (.tmp 72) (.const (.int .u8 48)) rfl rfl rfl (r := false) (decide_eq_false (by intro h; exact HAZ.out ⟨q1, by omega⟩)) (hK _ _ ?_)))
         unfold Stop
         try simp only [Act.put, zzC, zzD, zzE]
         go_wp2
         go_meet
         exact ⟨rfl, rfl⟩
        ·
         go_wp2_with (refine stop_op rfl (fun K hK => wp_eqli (.tmp 61) (.tmp 62) 3 3 rfl rfl rfl rfl (r := false) (decide_eq_false (by have := HI.out; omega)) (hK _ _ ?_)))
         unfold Stop
         try simp only [Act.put, zzC, zzD, zzE]
         go_wp2_with (refine stop_opw (by kernel_rfl) (fun K hK => wp_subi (.tmp 65) (.tmp 66) rfl rfl rfl (C := ((i - 0 : Nat) : Int)) (by omega) (by omega) (by omega) (hK _ _ ?_)))
         unfold Stop
         try simp only [Act.put, zzC, zzD, zzE]
         go_wp2_with (refine stop_opw (by kernel_rfl) (fun K hK => wp_gtri (.tmp 67) (.const (.int .i64 1)) rfl rfl rfl (r := false) (decide_eq_false (by have := HI.out; omega)) (hK _ _ ?_)))
         unfold Stop
         try simp only [Act.put, zzC, zzD, zzE]
         go_wp2
         go_meet
         exact ⟨rfl, rfl⟩
       case rest =>
        obtain ⟨rfl, hwc⟩ := hcut
        have hwd := hwc.symm
        clear hwc
        subst hwd
        go_wp2_with fail
        refine (zOfr hZ.nx (by omega) (by omega)).mono ?_
        rintro zz W12 ⟨q6, rfl, ez_q6, hi_q6, hB⟩
        have hZ20 := hZ.later hB
        clear hB
        clear hZ
        have hZ21 := hZ20.more (f := q6.ir) q6.stbr hi_q6
        clear hZ20
        clear hi_q6
        go_wp2_with (refine stopz_alloc 56 #[.bool false, .slice none 0 0] (.agg #[.bool false, .slice none 0 0]) rfl rfl zv56 rfl hZ21 (fun bk4 X22 W13 hZ22 => ?_))
        clear hZ21
        unfold Stop
        try simp only [Act.put, zzC, zzD, zzE]
        go_wp2_with (refine stopz_store 56 (.tmp 10) (.tmp 76) 0 bk4 0 #[.bool false, .slice none 0 0] 56 2 [.bool q6.b, .slice q6.a q6.n q6.c] #[.bool q6.b, .slice q6.a q6.n q6.c] [(bk4, #[.bool q6.b, .slice q6.a q6.n q6.c], 56), (bk2, #[.bool q1.b, .slice q1.a q1.n q1.c], 56), (bk1, #[.bool px.b, .slice px.a px.n px.c], 56)] rfl rfl rfl rfl sz56 hZ22 rfl rfl (zzF (by kernel_rfl)) (by kernel_rfl) (by kernel_rfl) (by kernel_rfl) (fun W14 hZ23 => ?_))
        clear hZ22
        unfold Stop
        try simp only [Act.put, zzC, zzD, zzE]
        go_wp2_with (refine stop_op rfl (fun K hK => wp_lenst (.tmp 78) 9 (by kernel_rfl) rfl rfl (hK _ _ ?_)))
        unfold Stop
        try simp only [Act.put, zzC, zzD, zzE]
        go_wp2_with (refine stop_op rfl (fun K hK => wp_lssi (.tmp 77) (.tmp 79) rfl rfl rfl (r := true) (decide_eq_true (by omega)) (hK _ _ ?_)))
        unfold Stop
        try simp only [Act.put, zzC, zzD, zzE]
        by_cases hdot : chr s i = 46
        ·
         have HDOT := Lib.hid hdot
         clear hdot
         go_wp2_with (refine stop_op rfl (fun K hK => wp_sidx 9 (.tmp 81) (.tmp 82) (by kernel_rfl) rfl rfl (i := i) rfl (by omega) (hK _ _ ?_)))
         unfold Stop
         try simp only [Act.put, zzC, zzD, zzE]
         go_wp2_with (refine stop_op rfl (fun K hK => wp_neq8 (.tmp 83) (.const (.int .u8 46)) rfl rfl rfl (r := false) (decide_eq_false (by have := HDOT.out; omega)) (hK _ _ ?_)))
         unfold Stop
         try simp only [Act.put, zzC, zzD, zzE]
         obtain ⟨g, hg⟩ : ∃ g, g = i + 1 := ⟨_, rfl⟩
         have HGI := Lib.hid hg
         clear hg
         go_wp2_with (refine stop_op rfl (fun K hK => wp_addi (.tmp 85) (.const (.int .i64 1)) rfl rfl rfl (C := ((g : Nat) : Int)) (by have := HGI.out; omega) (by omega) (by have := HGI.out; omega) (hK _ _ ?_)))
         unfold Stop
         try simp only [Act.put, zzC, zzD, zzE]
         have HGG := Lib.hid (show g ≤ s.size by have := HGI.out; omega)
         have hfg : 0 + (tw s 0).length ≤ g := by have := HA.out; have := HI.out; have := HGI.out; omega
         have HFG := Lib.hid hfg
         clear hfg
         have hZ24 := hZ23.only [px.ir, q1.ir, q6.ir] (by simp)
         clear hZ23
         have hZ26 := hZ24.only [px.ir, q6.ir, q1.ir] (by simp)
         clear hZ24
         go_wp2
         go_loopw [5] (fun jv wr => ∃ (j : Nat) (qx qy : NL) (X : Nat → Prop), g ≤ j ∧ j ≤ g + (tw s g).length ∧ jv = .int .i64 ((j : Nat) : Int) ∧ qx.z = ((dval (tw s 0 ++ (tw s g).take (j - g)) : Nat) : Int) ∧ qy.z = ((10 ^ (j - g) : Nat) : Int) ∧ Zs w wr X0 X [(bk4, #[.bool qy.b, .slice qy.a qy.n qy.c], 56), (bk2, #[.bool q1.b, .slice q1.a q1.n q1.c], 56), (bk1, #[.bool qx.b, .slice qx.a qx.n qx.c], 56)] [qx.ir, qy.ir, q1.ir]) (fun jv _ => 50 - (intOf jv).toNat)
         case atStart => exact ⟨g, px, q6, _, Nat.le_refl _, Nat.le_add_right _ _, rfl, (by rw [ez_px, HZZ.out, Nat.sub_self, List.take_zero, List.append_nil]), (by rw [ez_q6, Nat.sub_self]; rfl), hZ26⟩
         case round =>
          clear hZ26
          obtain ⟨j, qx, qy, Xj, hj1, hj2, rfl, ez_qx, ez_qy, hZj⟩ := hrel
          have hqx : (((dval (tw s 0 ++ (tw s g).take (j - g)) : Nat) : Int)).natAbs < 10 ^ 50 := by have h := two50 (s := s) (f := 0) (g := g) (k := (tw s 0).length) (m := j - g) HG.out HGG.out hs HFG.out; rwa [List.take_length] at h
          have hlg := len_eq s g HGG.out
          have hgo := HGG.out
          have hqy : (((10 ^ (j - g) : Nat) : Int)).natAbs < 10 ^ 50 := pow50 (by omega)
          by_cases hjl : j < g + (tw s g).length
          ·
           obtain ⟨hjs, h48, h57, _⟩ := tw_step HGG.out hj1 hjl
           have HV := Lib.hid (dv_step (s := s) (g := g) (tw s 0) HGG.out hj1 hjl)
           go_wp2_with (refine stop_op rfl (fun K hK => wp_lenst (.tmp 89) 9 (by kernel_rfl) rfl rfl (hK _ _ ?_)))
           unfold Stop
           try simp only [Act.put, zzC, zzD, zzE]
           go_wp2_with (refine stop_op rfl (fun K hK => wp_lssi (.tmp 88) (.tmp 90) rfl rfl rfl (r := true) (decide_eq_true (by omega)) (hK _ _ ?_)))
           unfold Stop
           try simp only [Act.put, zzC, zzD, zzE]
           go_wp2_with (refine stop_opw (by kernel_rfl) (fun K hK => wp_sidx 9 (.tmp 93) (.tmp 94) (by kernel_rfl) rfl rfl (i := j) rfl (by omega) (hK _ _ ?_)))
           unfold Stop
           try simp only [Act.put, zzC, zzD, zzE]
           go_wp2_with (refine stop_opw (by kernel_rfl) (fun K hK => wp_geq8 (.tmp 95) (.const (.int .u8 48)) rfl rfl rfl (r := true) (decide_eq_true (by omega)) (hK _ _ ?_)))
           unfold Stop
           try simp only [Act.put, zzC, zzD, zzE]
           go_wp2_with (refine stop_opw (by kernel_rfl) (fun K hK => wp_sidx 9 (.tmp 99) (.tmp 100) (by kernel_rfl) rfl rfl (i := j) rfl (by omega) (hK _ _ ?_)))
           unfold Stop
           try simp only [Act.put, zzC, zzD, zzE]
           go_wp2_with (refine stop_opw (by kernel_rfl) (fun K hK => wp_leq8 (.tmp 101) (.const (.int .u8 57)) rfl rfl rfl (r := true) (decide_eq_true (by omega)) (hK _ _ ?_)))
           unfold Stop
           try simp only [Act.put, zzC, zzD, zzE]
           go_wp2
           have hM : Zs w wr.drew X0 Xj [(bk4, #[.bool qy.b, .slice qy.a qy.n qy.c], 56), (bk2, #[.bool q1.b, .slice q1.a q1.n q1.c], 56), (bk1, #[.bool qx.b, .slice qx.a qx.n qx.c], 56)] [qx.ir, qy.ir, q1.ir] ∧ Below wr.heap.size wr wr.drew := ⟨hZj.later (Below.refl _ _).drew, (Below.refl _ _).drew⟩
           clear hZj
           have hVS22 : ∀ k, k ∈ ([veq (qx.v), veq (q1.v), vnumr (((dval (tw s 0 ++ (tw s g).take (j - g)) : Nat) : Int) * 10), veq (.string s), veq (.int .i64 (((j : Nat) : Int))), veq (.int .u8 (((chr s j : Nat) : Int))), veq (.int .u8 ((((chr s j : Nat) : Int) - 48))), veq (.int .i64 ((((chr s j : Nat) : Int) - 48))), vnumr ((((chr s j : Nat) : Int) - 48)), vnumr ((((dval (tw s 0 ++ (tw s g).take (j - g)) : Nat) : Int) * 10) + (((chr s j : Nat) : Int) - 48))] : List VF) → VSt k := by
            intro k hk
            simp only [List.mem_cons, List.not_mem_nil, or_false] at hk
            rcases hk with rfl | rfl | rfl | rfl | rfl | rfl | rfl | rfl | rfl | rfl
            ·
             exact veq_st _
            ·
             exact veq_st _
            ·
             exact vnum_str _
            ·
             exact veq_st _
            ·
             exact veq_st _
            ·
             exact veq_st _
            ·
             exact veq_st _
            ·
             exact veq_st _
            ·
             exact vnum_str _
            ·
             exact vnum_str _
           refine wp_region_q 10 [some 104, some 105, some 106, some 107, some 108, some 109, some 110, some 111, some 112, some 113] (vzL [veq (qx.v), veq (q1.v), vnumr (((dval (tw s 0 ++ (tw s g).take (j - g)) : Nat) : Int) * 10), veq (.string s), veq (.int .i64 (((j : Nat) : Int))), veq (.int .u8 (((chr s j : Nat) : Int))), veq (.int .u8 ((((chr s j : Nat) : Int) - 48))), veq (.int .i64 ((((chr s j : Nat) : Int) - 48))), vnumr ((((chr s j : Nat) : Int) - 48)), vnumr ((((dval (tw s 0 ++ (tw s g).take (j - g)) : Nat) : Int) * 10) + (((chr s j : Nat) : Int) - 48))] Xj) (fun W => Zs w W X0 Xj [(bk4, #[.bool qy.b, .slice qy.a qy.n qy.c], 56), (bk2, #[.bool q1.b, .slice q1.a q1.n q1.c], 56), (bk1, #[.bool qx.b, .slice qx.a qx.n qx.c], 56)] [qx.ir, qy.ir, q1.ir] ∧ Below wr.heap.size wr W) (by kernel_rfl) (by kernel_rfl) (by rfl) (by decide) (by rfl) hM ?_ ?_
           ·
            intro i hl hi LL uu ww aa hLi hLc hJ hd hev hin hold
            clear hM
            obtain ⟨hJ, hJb⟩ := hJ
            obtain rfl | rfl | rfl | rfl | rfl | rfl | rfl | rfl | rfl | rfl : i = 0 ∨ i = 1 ∨ i = 2 ∨ i = 3 ∨ i = 4 ∨ i = 5 ∨ i = 6 ∨ i = 7 ∨ i = 8 ∨ i = 9 := by omega
            ·
             exact .inr ⟨rfl, fun K' hK => wp_load 56 (.tmp 7) rfl bk1 0 2 #[.bool qx.b, .slice qx.a qx.n qx.c] #[.bool qx.b, .slice qx.a qx.n qx.c] 56 (hJ.es.at' _ (zzG (i := 2) rfl)) (eval_tmp ((hev 7 (by decide)).trans rfl)) ag56 sz56 (zzF (by kernel_rfl)) (by kernel_rfl) (hK _ _ ⟨hJ, hJb⟩ rfl vzL_same)⟩
            ·
             exact .inr ⟨rfl, fun K' hK => wp_load 56 (.tmp 8) rfl bk2 0 2 #[.bool q1.b, .slice q1.a q1.n q1.c] #[.bool q1.b, .slice q1.a q1.n q1.c] 56 (hJ.es.at' _ (zzG (i := 1) rfl)) (eval_tmp ((hev 8 (by decide)).trans rfl)) ag56 sz56 (zzF (by kernel_rfl)) (by kernel_rfl) (hK _ _ ⟨hJ, hJb⟩ rfl vzL_same)⟩
            ·
             refine .inr ⟨rfl, fun K' hK => ?_⟩
             refine wp_callz (.func 35) #[.tmp 104, .tmp 105] #[56, 56] 35 #[] #[qx.v, q1.v] _ rfl rfl (map2 (eval_tmp ((hin 0 104 rfl).trans (congrArg some (show uu 0 = qx.v from hd 0 (by decide) (by kernel_rfl))))) (eval_tmp ((hin 1 105 rfl).trans (congrArg some (show uu 1 = q1.v from hd 1 (by decide) (by kernel_rfl)))))) rfl (fun _ _ => rfl) (zMulr hJ.nx (hJ.get 0 (f := qx.ir) rfl) (hJ.get 2 (f := q1.ir) rfl) ez_qx ez_q1 (sz_of50 hqx) (sz_int (by omega) (by omega)) (by omega) (by omega)) ?_
             rintro zz ww2 ⟨q7, rfl, ez_q7, hi_q7, hB⟩
             exact ⟨_, rfl, hK _ _ ⟨hJ.later hB, hJb.trans (hB.mono hJb.size)⟩ ⟨q7, rfl, ez_q7, hi_q7⟩ (vzL_later hVS22 hB)⟩
            ·
             exact .inr ⟨rfl, fun K' hK => wp_move (.tmp 0) rfl (eval_tmp ((hev 0 (by decide)).trans rfl)) (hK _ _ ⟨hJ, hJb⟩ rfl vzL_same)⟩
            ·
             exact .inr ⟨rfl, fun K' hK => wp_move (.tmp 5) rfl (eval_tmp ((hev 5 (by decide)).trans rfl)) (hK _ _ ⟨hJ, hJb⟩ rfl vzL_same)⟩
            ·
             exact .inr ⟨rfl, fun K' hK => wp_sidx 9 (.tmp 107) (.tmp 108) (by kernel_rfl) rfl (eval_tmp ((hin 3 107 rfl).trans (congrArg some (show uu 3 = .string s from hd 3 (by decide) (by kernel_rfl))))) (i := j) (eval_tmp ((hin 4 108 rfl).trans (congrArg some (show uu 4 = .int .i64 (((j : Nat) : Int)) from hd 4 (by decide) (by kernel_rfl))))) (by omega) (hK _ _ ⟨hJ, hJb⟩ rfl vzL_same)⟩
            ·
             exact .inr ⟨rfl, fun K' hK => wp_sub8 (.tmp 109) (.const (.int .u8 48)) rfl (eval_tmp ((hin 5 109 rfl).trans (congrArg some (show uu 5 = .int .u8 (((chr s j : Nat) : Int)) from hd 5 (by decide) (by kernel_rfl))))) rfl (by omega) (by omega) (by omega) (hK _ _ ⟨hJ, hJb⟩ rfl vzL_same)⟩
            ·
             exact .inr ⟨rfl, fun K' hK => wp_cv8 (.tmp 110) rfl (eval_tmp ((hin 6 110 rfl).trans (congrArg some (show uu 6 = .int .u8 ((((chr s j : Nat) : Int) - 48)) from hd 6 (by decide) (by kernel_rfl))))) (by omega) (by omega) (hK _ _ ⟨hJ, hJb⟩ rfl vzL_same)⟩
            ·
             refine .inr ⟨rfl, fun K' hK => ?_⟩
             refine wp_callz (.func 34) #[.tmp 111] #[2] 34 #[] #[.int .i64 ((((chr s j : Nat) : Int) - 48))] _ rfl rfl (map1 (eval_tmp ((hin 7 111 rfl).trans (congrArg some (show uu 7 = .int .i64 ((((chr s j : Nat) : Int) - 48)) from hd 7 (by decide) (by kernel_rfl)))))) rfl (fun _ _ => rfl) (zOfr hJ.nx (by omega) (by omega)) ?_
             rintro zz ww2 ⟨q8, rfl, ez_q8, hi_q8, hB⟩
             exact ⟨_, rfl, hK _ _ ⟨hJ.later hB, hJb.trans (hB.mono hJb.size)⟩ ⟨q8, rfl, ez_q8, hi_q8⟩ (vzL_later hVS22 hB)⟩
            ·
             obtain ⟨q7, e2, ez_q7, hi_q7⟩ := (show (vnumr (((dval (tw s 0 ++ (tw s g).take (j - g)) : Nat) : Int) * 10)) (uu 2) Xj ww from hd 2 (by decide) (by kernel_rfl))
             obtain ⟨q8, e8, ez_q8, hi_q8⟩ := (show (vnumr ((((chr s j : Nat) : Int) - 48))) (uu 8) Xj ww from hd 8 (by decide) (by kernel_rfl))
             replace hJ := hJ.more (f := q7.ir) q7.stbr hi_q7
             replace hJ := hJ.more (f := q8.ir) q8.stbr hi_q8
             refine .inr ⟨rfl, fun K' hK => ?_⟩
             refine wp_callz (.func 36) #[.tmp 106, .tmp 112] #[56, 56] 36 #[] #[q7.v, q8.v] _ rfl rfl (map2 (eval_tmp ((hin 2 106 rfl).trans (congrArg some e2))) (eval_tmp ((hin 8 112 rfl).trans (congrArg some e8)))) rfl (fun _ _ => rfl) (zAddr hJ.nx (hJ.get 1 (f := q7.ir) rfl) (hJ.get 0 (f := q8.ir) rfl) ez_q7 ez_q8 (Sz.mul (sz_of50 hqx) (sz_int (by omega) (by omega))) (sz_int (by omega) (by omega)) (by omega) (by omega)) ?_
             rintro zz ww2 ⟨q9, rfl, ez_q9, hi_q9, hB⟩
             exact ⟨_, rfl, hK _ _ ⟨(hJ.only [qx.ir, qy.ir, q1.ir] (by simp)).later hB, hJb.trans (hB.mono hJb.size)⟩ ⟨q9, rfl, ez_q9, hi_q9⟩ (vzL_later hVS22 hB)⟩
           clear hM
           intro uu W15 hZ27p hd
           obtain ⟨hZ27, hb22⟩ := hZ27p
           have e_0 : uu 0 = qx.v := hd 0 (by decide)
           have e_1 : uu 1 = q1.v := hd 1 (by decide)
           obtain ⟨q7, e_2, ez_q7, hi_q7⟩ := (show (vnumr (((dval (tw s 0 ++ (tw s g).take (j - g)) : Nat) : Int) * 10)) (uu 2) Xj W15 from hd 2 (by decide))
           have e_3 : uu 3 = .string s := hd 3 (by decide)
           have e_4 : uu 4 = .int .i64 (((j : Nat) : Int)) := hd 4 (by decide)
           have e_5 : uu 5 = .int .u8 (((chr s j : Nat) : Int)) := hd 5 (by decide)
           have e_6 : uu 6 = .int .u8 ((((chr s j : Nat) : Int) - 48)) := hd 6 (by decide)
           have e_7 : uu 7 = .int .i64 ((((chr s j : Nat) : Int) - 48)) := hd 7 (by decide)
           obtain ⟨q8, e_8, ez_q8, hi_q8⟩ := (show (vnumr ((((chr s j : Nat) : Int) - 48))) (uu 8) Xj W15 from hd 8 (by decide))
           obtain ⟨q9, e_9, ez_q9, hi_q9⟩ := (show (vnumr ((((dval (tw s 0 ++ (tw s g).take (j - g)) : Nat) : Int) * 10) + (((chr s j : Nat) : Int) - 48))) (uu 9) Xj W15 from hd 9 (by decide))
           clear hd hVS22
           simp only [layS, Act.put, zzC, zzD, zzE, Nat.zero_add, Nat.reduceAdd, List.drop_succ_cons, List.drop_zero, List.drop_nil, e_0, e_1, e_2, e_3, e_4, e_5, e_6, e_7, e_8, e_9]
           clear e_0 e_1 e_2 e_3 e_4 e_5 e_6 e_7 e_8 e_9
           have hZ28 := hZ27.more (f := q7.ir) q7.stbr hi_q7
           clear hZ27
           clear hi_q7
           have hZ29 := hZ28.more (f := q8.ir) q8.stbr hi_q8
           clear hZ28
           clear hi_q8
           have hZ30 := hZ29.more (f := q9.ir) q9.stbr hi_q9
           clear hZ29
           clear hi_q9
           go_wp2_with (refine stopz_store 56 (.tmp 7) (.tmp 113) 2 bk1 0 #[.bool qx.b, .slice qx.a qx.n qx.c] 56 2 [.bool q9.b, .slice q9.a q9.n q9.c] #[.bool q9.b, .slice q9.a q9.n q9.c] [(bk4, #[.bool qy.b, .slice qy.a qy.n qy.c], 56), (bk2, #[.bool q1.b, .slice q1.a q1.n q1.c], 56), (bk1, #[.bool q9.b, .slice q9.a q9.n q9.c], 56)] rfl rfl rfl rfl sz56 hZ30 rfl rfl (zzF (by kernel_rfl)) (by kernel_rfl) (by kernel_rfl) (by kernel_rfl) (fun W16 hZ31 => ?_))
           clear hZ30
           unfold Stop
           try simp only [Act.put, zzC, zzD, zzE]
           go_wp2_with (refine stop_op rfl (fun K hK => wp_load 56 (.tmp 10) rfl bk4 0 2 #[.bool qy.b, .slice qy.a qy.n qy.c] #[.bool qy.b, .slice qy.a qy.n qy.c] 56 (hZ31.es.at' _ (zzG (i := 0) rfl)) rfl ag56 sz56 (zzF (by kernel_rfl)) (by kernel_rfl) (hK _ _ ?_)))
           unfold Stop
           try simp only [Act.put, zzC, zzD, zzE]
           go_wp2_with (refine stop_op rfl (fun K hK => wp_load 56 (.tmp 8) rfl bk2 0 2 #[.bool q1.b, .slice q1.a q1.n q1.c] #[.bool q1.b, .slice q1.a q1.n q1.c] 56 (hZ31.es.at' _ (zzG (i := 1) rfl)) rfl ag56 sz56 (zzF (by kernel_rfl)) (by kernel_rfl) (hK _ _ ?_)))
           unfold Stop
           try simp only [Act.put, zzC, zzD, zzE]
           go_wp2_with fail
           refine (zMulr hZ31.nx (hZ31.get 4 (f := qy.ir) rfl) (hZ31.get 5 (f := q1.ir) rfl) ez_qy ez_q1 (sz_of50 hqy) (sz_int (by omega) (by omega)) (by omega) (by omega)).mono ?_
           rintro zz W17 ⟨q10, rfl, ez_q10, hi_q10, hB⟩
           have hZ32 := hZ31.later hB
           clear hB
           clear hZ31
           have hZ33 := hZ32.more (f := q10.ir) q10.stbr hi_q10
           clear hZ32
           clear hi_q10
           go_wp2_with (refine stopz_store 56 (.tmp 10) (.tmp 116) 0 bk4 0 #[.bool qy.b, .slice qy.a qy.n qy.c] 56 2 [.bool q10.b, .slice q10.a q10.n q10.c] #[.bool q10.b, .slice q10.a q10.n q10.c] [(bk4, #[.bool q10.b, .slice q10.a q10.n q10.c], 56), (bk2, #[.bool q1.b, .slice q1.a q1.n q1.c], 56), (bk1, #[.bool q9.b, .slice q9.a q9.n q9.c], 56)] rfl rfl rfl rfl sz56 hZ33 rfl rfl (zzF (by kernel_rfl)) (by kernel_rfl) (by kernel_rfl) (by kernel_rfl) (fun W18 hZ34 => ?_))
           clear hZ33
           unfold Stop
           try simp only [Act.put, zzC, zzD, zzE]
           go_wp2_with (refine stop_op rfl (fun K hK => wp_addi (.tmp 117) (.const (.int .i64 1)) rfl rfl rfl (C := ((j + 1 : Nat) : Int)) (by omega) (by omega) (by omega) (hK _ _ ?_)))
           unfold Stop
           try simp only [Act.put, zzC, zzD, zzE]
           have hZ35 := hZ34.only [q9.ir, q10.ir, q1.ir] (by simp)
           clear hZ34
           go_wp2
           go_roundw
           case rel => exact ⟨j + 1, q9, q10, _, by omega, by omega, by go_num, ez_q9.trans HV.out.symm, ez_q10.trans (pw_next hj1), hZ35⟩
           case measure => simp [intOf]; omega
          ·
           obtain ⟨c, hc⟩ : ∃ c, c = (tw s g).length := ⟨_, rfl⟩
           have hjc : j = g + c := by omega
           have HC := Lib.hid hc
           have HJ := Lib.hid hjc
           have hend := tw_end2 s (g := g) (i := j) HGG.out (by omega)
           have hj40 : j ≤ 40 := by omega
           clear hjl hj2 hc hjc
           rcases hend with ⟨hdw, hsz⟩ | ⟨hjs, hdw, hnd⟩
           ·
            have HDV := Lib.hid hdw
            have HSZ := Lib.hid hsz
            clear hdw hsz
            go_wp2_with (refine stop_op rfl (fun K hK => wp_lenst (.tmp 89) 9 (by kernel_rfl) rfl rfl (hK _ _ ?_)))
            unfold Stop
            try simp only [Act.put, zzC, zzD, zzE]
            go_wp2_with (refine stop_op rfl (fun K hK => wp_lssi (.tmp 88) (.tmp 90) rfl rfl rfl (r := false) (decide_eq_false (by have := HSZ.out; omega)) (hK _ _ ?_)))
            unfold Stop
            try simp only [Act.put, zzC, zzD, zzE]
            by_cases c0 : c = 0
            ·
             have HC0 := Lib.hid c0
             clear c0
             go_wp2_with (refine stop_op rfl (fun K hK => wp_eqli (.tmp 119) (.tmp 120) 3 3 rfl rfl rfl rfl (r := true) (decide_eq_true (by have := HJ.out; have := HC0.out; omega)) (hK _ _ ?_)))
             unfold Stop
             try simp only [Act.put, zzC, zzD, zzE]
             have HR : Hid (readsB s.data.toList = false) := behind_bad (f := 0) (g := g) hi HPD.out HDW.out HDOT.out HGI.out (.inl (List.length_eq_zero_iff.1 (by rw [← HC.out]; exact HC0.out)))
             go_wp2
             exact bodyPost_ret (v := .tuple #[.int .i64 0, .bool false, .int .i64 10]) (by simp [results, Tryz.results7, go_sem]) rfl ⟨by rw [(fx_bad HR.out).1, (fx_bad HR.out).2.1, (fx_bad HR.out).2.2], hZj.below⟩
            ·
             by_cases c20 : 20 < c
             ·
              go_wp2_with (refine stop_op rfl (fun K hK => wp_eqli (.tmp 119) (.tmp 120) 3 3 rfl rfl rfl rfl (r := false) (decide_eq_false (by have := HJ.out; omega)) (hK _ _ ?_)))
              unfold Stop
              try simp only [Act.put, zzC, zzD, zzE]
              go_wp2_with (refine stop_opw (by kernel_rfl) (fun K hK => wp_lenst (.tmp 124) 9 (by kernel_rfl) rfl rfl (hK _ _ ?_)))
              unfold Stop
              try simp only [Act.put, zzC, zzD, zzE]
              go_wp2_with (refine stop_opw (by kernel_rfl) (fun K hK => wp_lssi (.tmp 123) (.tmp 125) rfl rfl rfl (r := false) (decide_eq_false (by have := HSZ.out; omega)) (hK _ _ ?_)))
              unfold Stop
              try simp only [Act.put, zzC, zzD, zzE]
              go_wp2_with (refine stop_opw (by kernel_rfl) (fun K hK => wp_subi (.tmp 129) (.tmp 130) rfl rfl rfl (C := ((j - g : Nat) : Int)) (by omega) (by omega) (by omega) (hK _ _ ?_)))
              unfold Stop
              try simp only [Act.put, zzC, zzD, zzE]
              go_wp2_with (refine stop_opw (by kernel_rfl) (fun K hK => wp_gtri (.tmp 131) (.const (.int .i64 20)) rfl rfl rfl (r := true) (decide_eq_true (by have := HJ.out; omega)) (hK _ _ ?_)))
              unfold Stop
              try simp only [Act.put, zzC, zzD, zzE]
              have HR : Hid (readsB s.data.toList = false) := behind_bad (f := 0) (g := g) hi HPD.out HDW.out HDOT.out HGI.out (.inr (.inr (by have := HC.out; omega)))
              go_wp2
              exact bodyPost_ret (v := .tuple #[.int .i64 0, .bool false, .int .i64 10]) (by simp [results, Tryz.results7, go_sem]) rfl ⟨by rw [(fx_bad HR.out).1, (fx_bad HR.out).2.1, (fx_bad HR.out).2.2], hZj.below⟩
             ·
              go_wp2_with (refine stop_op rfl (fun K hK => wp_eqli (.tmp 119) (.tmp 120) 3 3 rfl rfl rfl rfl (r := false) (decide_eq_false (by have := HJ.out; omega)) (hK _ _ ?_)))
              unfold Stop
              try simp only [Act.put, zzC, zzD, zzE]
              go_wp2_with (refine stop_opw (by kernel_rfl) (fun K hK => wp_lenst (.tmp 124) 9 (by kernel_rfl) rfl rfl (hK _ _ ?_)))
              unfold Stop
              try simp only [Act.put, zzC, zzD, zzE]
              go_wp2_with (refine stop_opw (by kernel_rfl) (fun K hK => wp_lssi (.tmp 123) (.tmp 125) rfl rfl rfl (r := false) (decide_eq_false (by have := HSZ.out; omega)) (hK _ _ ?_)))
              unfold Stop
              try simp only [Act.put, zzC, zzD, zzE]
              go_wp2_with (refine stop_opw (by kernel_rfl) (fun K hK => wp_subi (.tmp 129) (.tmp 130) rfl rfl rfl (C := ((j - g : Nat) : Int)) (by omega) (by omega) (by omega) (hK _ _ ?_)))
              unfold Stop
              try simp only [Act.put, zzC, zzD, zzE]
              go_wp2_with (refine stop_opw (by kernel_rfl) (fun K hK => wp_gtri (.tmp 131) (.const (.int .i64 20)) rfl rfl rfl (r := false) (decide_eq_false (by have := HJ.out; omega)) (hK _ _ ?_)))
              unfold Stop
              try simp only [Act.put, zzC, zzD, zzE]
              obtain ⟨VV, hVV⟩ : ∃ z : Int, z = ((dval (tw s 0 ++ (tw s g).take (j - g)) : Nat) : Int) := ⟨_, rfl⟩
              obtain ⟨UU, hUU⟩ : ∃ z : Int, z = ((10 ^ (j - g) : Nat) : Int) := ⟨_, rfl⟩
              rw [← hVV] at ez_qx hqx
              rw [← hUU] at ez_qy hqy
              have HGD := Lib.hid (good_dot (f := 0) (g := g) (neg := false) (Z := VV) (U := UU) HG.out hs HPB.out HPD.out hi HDW.out HDOT.out HGI.out HDV.out HOK.out.1 HOK.out.2 (by rw [← HC.out]; omega) (by rw [← HC.out]; omega) (hVV.trans (by rw [List.take_of_length_le (by have := HC.out; have := HJ.out; omega)])) (hUU.trans (by rw [show j - g = (tw s g).length by have := HC.out; have := HJ.out; omega])) hqx hqy)
              clear hVV hUU hqx hqy
              go_wp2_with (refine stop_op rfl (fun K hK => wp_load 56 (.tmp 7) rfl bk1 0 2 #[.bool qx.b, .slice qx.a qx.n qx.c] #[.bool qx.b, .slice qx.a qx.n qx.c] 56 (hZj.es.at' _ (zzG (i := 2) rfl)) rfl ag56 sz56 (zzF (by kernel_rfl)) (by kernel_rfl) (hK _ _ ?_)))
              unfold Stop
              try simp only [Act.put, zzC, zzD, zzE]
              go_wp2_with fail
              refine (zSignr (hZj.get 0 (f := qx.ir) rfl) ez_qx).mono ?_
              rintro zz W19 ⟨rfl, hB⟩
              have hZ36 := hZj.later hB
              clear hB
              clear hZj
              obtain ⟨rx, hx1, hx2, hx3, hx4, hx5⟩ : ∃ r : NR, r.b = qx.b ∧ r.a = qx.a ∧ r.n = qx.n ∧ r.c = qx.c ∧ r.z = qx.z := ⟨⟨qx.b, qx.a, qx.n, qx.c, qx.z⟩, rfl, rfl, rfl, rfl, rfl⟩
              obtain ⟨ry, hy1, hy2, hy3, hy4, hy5⟩ : ∃ r : NR, r.b = qy.b ∧ r.a = qy.a ∧ r.n = qy.n ∧ r.c = qy.c ∧ r.z = qy.z := ⟨⟨qy.b, qy.a, qy.n, qy.c, qy.z⟩, rfl, rfl, rfl, rfl, rfl⟩
              have hrx : NR.is rx W19 := by
               show RNum W19 rx.b rx.a rx.n rx.c rx.z
               rw [hx1, hx2, hx3, hx4, hx5]
               exact ((hZ36.get 0 (f := qx.ir) rfl)).1
              have hry : NR.is ry W19 := by
               show RNum W19 ry.b ry.a ry.n ry.c ry.z
               rw [hy1, hy2, hy3, hy4, hy5]
               exact ((hZ36.get 1 (f := qy.ir) rfl)).1
              have hZ37e : Es w W19 [(bk4, #[.bool ry.b, .slice ry.a ry.n ry.c], 56), (bk2, #[.bool q1.b, .slice q1.a q1.n q1.c], 56), (bk1, #[.bool rx.b, .slice rx.a rx.n rx.c], 56)] := by
               rw [hx1, hx2, hx3, hx4, hy1, hy2, hy3, hy4]
               exact hZ36.es
              have hZ37 : En w W19 [(bk4, #[.bool ry.b, .slice ry.a ry.n ry.c], 56), (bk2, #[.bool q1.b, .slice q1.a q1.n q1.c], 56), (bk1, #[.bool rx.b, .slice rx.a rx.n rx.c], 56)] [ry, rx] := ⟨hZ37e, fun r hr => by
               rcases List.mem_cons.1 hr with rfl | hr
               ·
                exact hry
               ·
                rcases List.mem_cons.1 hr with rfl | hr
                ·
                 exact hrx
                ·
                 cases hr⟩
              obtain ⟨XX, hXX⟩ : ∃ x : Int, x = VV := ⟨_, rfl⟩
              obtain ⟨YY, hYY⟩ : ∃ y : Int, y = UU := ⟨_, rfl⟩
              have Hz_rx : Hid (rx.z = XX) := by show _ = _; rw [hx5, hXX]; exact ez_qx
              have Hz_ry : Hid (ry.z = YY) := by show _ = _; rw [hy5, hYY]; exact ez_qy
              have hX50 : XX.natAbs < 10 ^ 50 := by rw [hXX]; exact HGD.out.2.2.2.1
              have hY50 : 0 < YY ∧ YY.natAbs < 10 ^ 50 := by rw [hYY]; exact HGD.out.2.2.2.2
              have HFQ : Hid (readsB s.data.toList = true ∧ fQ s.data.toList = flo (XX * 1048576) YY) := by
               show _ ∧ _
               rw [hXX, hYY]
               exact ⟨HGD.out.1, HGD.out.2.1⟩
              have hm60 := g60m hX50
              have Hone := Lib.hid dOne
              have Hmu := Lib.hid (gMul (x := XX) (y := 1048576) (g60 hX50).1 (g60s2))
              have Hq := Lib.hid (gQuo (x := XX * 1048576) (y := YY) hm60 hY50.1 (g60 hY50.2).1)
              have Hc := Lib.hid (gCut (flo60 hm60 hY50.1))
              clear hx1 hx2 hx3 hx4 hx5 hy1 hy2 hy3 hy4 hy5 hZ37e hrx hry hXX hYY hX50 hY50 hm60 hZ36 ez_qx ez_qy
              go_wp2
              obtain ⟨m32_500, hm⟩ : ∃ m, m = W19.heap.size := ⟨_, rfl⟩
              have hM : ∀ uu, Jn w m32_500 [(bk4, #[.bool ry.b, .slice ry.a ry.n ry.c], 56), (bk2, #[.bool q1.b, .slice q1.a q1.n q1.c], 56), (bk1, #[.bool rx.b, .slice rx.a rx.n rx.c], 56)] [ry, rx] [(9, 2, 56), (10, 2, 56)] [(11, 9, 6, 56), (12, 10, 7, 56)] (fun _ => false) uu W19.drew := fun uu => by rw [hm]; exact Jn.start hZ37 uu
              clear hm hZ37
              refine wp_region_y 14 [some 142, some 143, some 144, some 145, some 146, some 141, some 147, some 148, some 149, some 13, some 14, none, none, some 15] (vnL [.eq (.agg #[.bool rx.b, .slice rx.a rx.n rx.c]), .num (1048576), .num (XX * 1048576), .eq (.agg #[.bool ry.b, .slice ry.a ry.n ry.c]), .num2 (flo (XX * 1048576) YY) (.int .i64 0), .num2 (flo (XX * 1048576) YY) (.int .i64 0), .num (flo (XX * 1048576) YY), .numu, .eq (.int .i64 0), .any, .any, .any, .any, .eq (.int .i64 0)]) (Jn w m32_500 [(bk4, #[.bool ry.b, .slice ry.a ry.n ry.c], 56), (bk2, #[.bool q1.b, .slice q1.a q1.n q1.c], 56), (bk1, #[.bool rx.b, .slice rx.a rx.n rx.c], 56)] [ry, rx] [(9, 2, 56), (10, 2, 56)] [(11, 9, 6, 56), (12, 10, 7, 56)]) (by kernel_rfl) (by kernel_rfl) (by rfl) (by decide) (by rfl) hM ?_ ?_
              ·
               intro i hl hi LL uu ww aa hLi hJ hd hev hin
               clear hM
               obtain rfl | rfl | rfl | rfl | rfl | rfl | rfl | rfl | rfl | rfl | rfl | rfl | rfl | rfl : i = 0 ∨ i = 1 ∨ i = 2 ∨ i = 3 ∨ i = 4 ∨ i = 5 ∨ i = 6 ∨ i = 7 ∨ i = 8 ∨ i = 9 ∨ i = 10 ∨ i = 11 ∨ i = 12 ∨ i = 13 := by omega
               ·
                have x7 : aa.tmps[7]? = some (.pointer (some ⟨bk1, 0, none⟩)) := (hev 7 (by decide)).trans rfl
                clear hd hev hin
                simp only [zzA, zzB]
                clear hl
                refine .inr ⟨rfl, fun K' hK => ?_⟩
                have HK := Lib.hid hK
                clear hK
                have f0 : ww.cell? ⟨bk1, 0, none⟩ = some (.bool rx.b) := hJ.em.es.cell 2 rfl 0 rfl
                have f1 : ww.cell? ⟨bk1, 1, none⟩ = some (.slice rx.a rx.n rx.c) := hJ.em.es.cell 2 rfl 1 rfl
                go_simp
                exact HK.out (.agg #[.bool rx.b, .slice rx.a rx.n rx.c]) _ (hJ.grow hLi (by simp) (by simp) (Below.refl _ _)) rfl vnL_same
               ·
                clear hd hev hin
                simp only [zzA, zzB]
                clear hl
                refine .inr ⟨rfl, fun K' hK => ?_⟩
                have HK := Lib.hid hK
                clear hK
                go_simp
                refine (Hone.out ww).mono ?_
                rintro zz W' ⟨py0, hzy0, rfl, ipy0, hB⟩
                exact HK.out (.agg #[.bool py0.b, .slice py0.a py0.n py0.c]) _ (hJ.grow hLi (by simp) (by simp) hB) ⟨py0, hzy0, rfl, ipy0⟩ (vnL_later hB)
               ·
                have x142 : aa.tmps[142]? = some (.agg #[.bool rx.b, .slice rx.a rx.n rx.c]) := zzH (hin 0 142 rfl) (hd 0 (by decide) (by kernel_rfl)).2
                obtain ⟨q1, z1, e1, iq1⟩ := (show vnP (.num (1048576)) (uu 1) ww from (hd 1 (by decide) (by kernel_rfl)).2)
                have x143 : aa.tmps[143]? = some (.agg #[.bool q1.b, .slice q1.a q1.n q1.c]) := (hin 1 143 rfl).trans (congrArg some e1)
                clear hd hev hin
                simp only [zzA, zzB]
                clear hl
                refine .inr ⟨rfl, fun K' hK => ?_⟩
                have HK := Lib.hid hK
                clear hK
                go_simp
                refine (Hmu.out rx q1 ww Hz_rx.out z1 (hJ.num rx (by simp)) iq1).mono ?_
                rintro zz W' ⟨py0, hzy0, rfl, ipy0, hB⟩
                exact HK.out (.agg #[.bool py0.b, .slice py0.a py0.n py0.c]) _ (hJ.grow hLi (by simp) (by simp) hB) ⟨py0, hzy0, rfl, ipy0⟩ (vnL_later hB)
               ·
                have x10 : aa.tmps[10]? = some (.pointer (some ⟨bk4, 0, none⟩)) := (hev 10 (by decide)).trans rfl
                clear hd hev hin
                simp only [zzA, zzB]
                clear hl
                refine .inr ⟨rfl, fun K' hK => ?_⟩
                have HK := Lib.hid hK
                clear hK
                have f0 : ww.cell? ⟨bk4, 0, none⟩ = some (.bool ry.b) := hJ.em.es.cell 0 rfl 0 rfl
                have f1 : ww.cell? ⟨bk4, 1, none⟩ = some (.slice ry.a ry.n ry.c) := hJ.em.es.cell 0 rfl 1 rfl
                go_simp
                exact HK.out (.agg #[.bool ry.b, .slice ry.a ry.n ry.c]) _ (hJ.grow hLi (by simp) (by simp) (Below.refl _ _)) rfl vnL_same
               ·
                obtain ⟨q2, z2, e2, iq2⟩ := (show vnP (.num (XX * 1048576)) (uu 2) ww from (hd 2 (by decide) (by kernel_rfl)).2)
                have x144 : aa.tmps[144]? = some (.agg #[.bool q2.b, .slice q2.a q2.n q2.c]) := (hin 2 144 rfl).trans (congrArg some e2)
                have x145 : aa.tmps[145]? = some (.agg #[.bool ry.b, .slice ry.a ry.n ry.c]) := zzH (hin 3 145 rfl) (hd 3 (by decide) (by kernel_rfl)).2
                clear hd hev hin
                simp only [zzA, zzB]
                clear hl
                refine .inr ⟨rfl, fun K' hK => ?_⟩
                have HK := Lib.hid hK
                clear hK
                go_simp
                refine (Hq.out q2 ry ww z2 Hz_ry.out iq2 (hJ.num ry (by simp))).mono ?_
                rintro zz W' ⟨py0, py1, hzy0, rfl, ipy0, ipy1, hB⟩
                exact HK.out (.tuple #[.agg #[.bool py0.b, .slice py0.a py0.n py0.c], .agg #[.bool py1.b, .slice py1.a py1.n py1.c], .int .i64 0]) _ (hJ.grow hLi (by simp) (by simp) hB) ⟨py0, py1, hzy0, rfl, ipy0, ipy1⟩ (vnL_later hB)
               ·
                obtain ⟨q4, q4r, z4, e4, iq4, iq4r⟩ := (show vnP (.num2 (flo (XX * 1048576) YY) (.int .i64 0)) (uu 4) ww from (hd 4 (by decide) (by kernel_rfl)).2)
                have x146 : aa.tmps[146]? = some (.tuple #[.agg #[.bool q4.b, .slice q4.a q4.n q4.c], .agg #[.bool q4r.b, .slice q4r.a q4r.n q4r.c], .int .i64 0]) := (hin 4 146 rfl).trans (congrArg some e4)
                clear hd hev hin
                simp only [zzA, zzB]
                clear hl
                refine .inr ⟨rfl, fun K' hK => ?_⟩
                have HK := Lib.hid hK
                clear hK
                go_simp
                exact HK.out (.tuple #[.agg #[.bool q4.b, .slice q4.a q4.n q4.c], .agg #[.bool q4r.b, .slice q4r.a q4r.n q4r.c], .int .i64 0]) _ (hJ.grow hLi (by simp) (by simp) (Below.refl _ _)) ⟨q4, q4r, z4, rfl, iq4, iq4r⟩ vnL_same
               ·
                obtain ⟨q5, q5r, z5, e5, iq5, iq5r⟩ := (show vnP (.num2 (flo (XX * 1048576) YY) (.int .i64 0)) (uu 5) ww from (hd 5 (by decide) (by kernel_rfl)).2)
                have x141 : aa.tmps[141]? = some (.tuple #[.agg #[.bool q5.b, .slice q5.a q5.n q5.c], .agg #[.bool q5r.b, .slice q5r.a q5r.n q5r.c], .int .i64 0]) := (hin 5 141 rfl).trans (congrArg some e5)
                clear hd hev hin
                simp only [zzA, zzB]
                clear hl
                refine .inr ⟨rfl, fun K' hK => ?_⟩
                have HK := Lib.hid hK
                clear hK
                go_simp
                exact HK.out (.agg #[.bool q5.b, .slice q5.a q5.n q5.c]) _ (hJ.grow hLi (by simp) (by simp) (Below.refl _ _)) ⟨q5, z5, rfl, iq5⟩ vnL_same
               ·
                obtain ⟨q5, q5r, z5, e5, iq5, iq5r⟩ := (show vnP (.num2 (flo (XX * 1048576) YY) (.int .i64 0)) (uu 5) ww from (hd 5 (by decide) (by kernel_rfl)).2)
                have x141 : aa.tmps[141]? = some (.tuple #[.agg #[.bool q5.b, .slice q5.a q5.n q5.c], .agg #[.bool q5r.b, .slice q5r.a q5r.n q5r.c], .int .i64 0]) := (hin 5 141 rfl).trans (congrArg some e5)
                clear hd hev hin
                simp only [zzA, zzB]
                clear hl
                refine .inr ⟨rfl, fun K' hK => ?_⟩
                have HK := Lib.hid hK
                clear hK
                go_simp
                exact HK.out (.agg #[.bool q5r.b, .slice q5r.a q5r.n q5r.c]) _ (hJ.grow hLi (by simp) (by simp) (Below.refl _ _)) ⟨q5r, rfl, iq5r⟩ vnL_same
               ·
                obtain ⟨q5, q5r, z5, e5, iq5, iq5r⟩ := (show vnP (.num2 (flo (XX * 1048576) YY) (.int .i64 0)) (uu 5) ww from (hd 5 (by decide) (by kernel_rfl)).2)
                have x141 : aa.tmps[141]? = some (.tuple #[.agg #[.bool q5.b, .slice q5.a q5.n q5.c], .agg #[.bool q5r.b, .slice q5r.a q5r.n q5r.c], .int .i64 0]) := (hin 5 141 rfl).trans (congrArg some e5)
                clear hd hev hin
                simp only [zzA, zzB]
                clear hl
                refine .inr ⟨rfl, fun K' hK => ?_⟩
                have HK := Lib.hid hK
                clear hK
                go_simp
                exact HK.out (.int .i64 0) _ (hJ.grow hLi (by simp) (by simp) (Below.refl _ _)) rfl vnL_same
               ·
                clear hd hev hin
                simp only [zzA, zzB]
                clear hl
                refine .inr ⟨rfl, fun K' hK => ?_⟩
                have HK := Lib.hid hK
                clear hK
                refine wp_alloc 56 rfl (.agg #[.bool false, .slice none 0 0]) zv56 ?_
                exact HK.out _ _ (hJ.alloc hLi (n := 2) rfl (by kernel_rfl) (by simp) (by simp)) trivial (vnL_later ((Below.refl _ _).alloc (Nat.le_refl _) _))
               ·
                clear hd hev hin
                simp only [zzA, zzB]
                clear hl
                refine .inr ⟨rfl, fun K' hK => ?_⟩
                have HK := Lib.hid hK
                clear hK
                refine wp_alloc 56 rfl (.agg #[.bool false, .slice none 0 0]) zv56 ?_
                exact HK.out _ _ (hJ.alloc hLi (n := 2) rfl (by kernel_rfl) (by simp) (by simp)) trivial (vnL_later ((Below.refl _ _).alloc (Nat.le_refl _) _))
               ·
                have hLa := (hd 9 (by decide) (by kernel_rfl)).1
                obtain ⟨kb, kC, ke, kge, ksz, kno, kcl⟩ := hJ.bx (9, 2, 56) (by simp) hLa
                have x13 : aa.tmps[13]? = some (.pointer (some ⟨kb, 0, none⟩)) := (hin 9 13 rfl).trans (congrArg some ke)
                obtain ⟨q6, z6, e6, iq6⟩ := (show vnP (.num (flo (XX * 1048576) YY)) (uu 6) ww from (hd 6 (by decide) (by kernel_rfl)).2)
                have x147 : aa.tmps[147]? = some (.agg #[.bool q6.b, .slice q6.a q6.n q6.c]) := (hin 6 147 rfl).trans (congrArg some e6)
                have hLx := (hd 6 (by decide) (by kernel_rfl)).1
                clear hd hev hin
                simp only [zzA, zzB]
                clear hl
                refine .inr ⟨rfl, fun K' hK => ?_⟩
                have HK := Lib.hid hK
                clear hK
                refine wp_store 56 (.tmp 13) (.tmp 147) rfl 0 kb 0 kC 56 2 [.bool q6.b, .slice q6.a q6.n q6.c] (hJ.em.join kge kcl) rfl (eval_tmp x13) (by rw [eval_tmp x147]; rfl) sz56 rfl (by rw [ksz]; decide) (by kernel_rfl) (fun ww2 hE hk hz => ?_)
                rw [putC_full (show kC.size = ([.bool q6.b, .slice q6.a q6.n q6.c] : List Value).length from ksz)] at hE
                exact HK.out undef _ (hJ.store (a := 9) (x := 6) (n := 2) (T := 56) (Cn := #[.bool q6.b, .slice q6.a q6.n q6.c]) hLi (by simp) (by simp) (by simp) (by simp) (by simp) (by simp) hLa hLx ke kge rfl (by kernel_rfl) (by rw [e6]; rfl) kcl kno hE hk hz) trivial (vnL_store kcl kno hk hz)
               ·
                have hLa := (hd 10 (by decide) (by kernel_rfl)).1
                obtain ⟨kb, kC, ke, kge, ksz, kno, kcl⟩ := hJ.bx (10, 2, 56) (by simp) hLa
                have x14 : aa.tmps[14]? = some (.pointer (some ⟨kb, 0, none⟩)) := (hin 10 14 rfl).trans (congrArg some ke)
                obtain ⟨q7, e7, iq7⟩ := (show vnP (.numu) (uu 7) ww from (hd 7 (by decide) (by kernel_rfl)).2)
                have x148 : aa.tmps[148]? = some (.agg #[.bool q7.b, .slice q7.a q7.n q7.c]) := (hin 7 148 rfl).trans (congrArg some e7)
                have hLx := (hd 7 (by decide) (by kernel_rfl)).1
                clear hd hev hin
                simp only [zzA, zzB]
                clear hl
                refine .inr ⟨rfl, fun K' hK => ?_⟩
                have HK := Lib.hid hK
                clear hK
                refine wp_store 56 (.tmp 14) (.tmp 148) rfl 0 kb 0 kC 56 2 [.bool q7.b, .slice q7.a q7.n q7.c] (hJ.em.join kge kcl) rfl (eval_tmp x14) (by rw [eval_tmp x148]; rfl) sz56 rfl (by rw [ksz]; decide) (by kernel_rfl) (fun ww2 hE hk hz => ?_)
                rw [putC_full (show kC.size = ([.bool q7.b, .slice q7.a q7.n q7.c] : List Value).length from ksz)] at hE
                exact HK.out undef _ (hJ.store (a := 10) (x := 7) (n := 2) (T := 56) (Cn := #[.bool q7.b, .slice q7.a q7.n q7.c]) hLi (by simp) (by simp) (by simp) (by simp) (by simp) (by simp) hLa hLx ke kge rfl (by kernel_rfl) (by rw [e7]; rfl) kcl kno hE hk hz) trivial (vnL_store kcl kno hk hz)
               ·
                have x149 : aa.tmps[149]? = some (.int .i64 0) := zzH (hin 8 149 rfl) (hd 8 (by decide) (by kernel_rfl)).2
                clear hd hev hin
                simp only [zzA, zzB]
                clear hl
                refine .inr ⟨rfl, fun K' hK => ?_⟩
                have HK := Lib.hid hK
                clear hK
                go_simp
                exact HK.out (.int .i64 0) _ (hJ.grow hLi (by simp) (by simp) (Below.refl _ _)) rfl vnL_same
              clear hM
              intro LL uu W501 hLL hJm hd
              have e_0 : uu 0 = .agg #[.bool rx.b, .slice rx.a rx.n rx.c] := hd 0 (by decide)
              obtain ⟨pn1, hz_pn1, e_1, hi_pn1⟩ := (show vnP (.num (1048576)) (uu 1) W501 from hd 1 (by decide))
              have Hz_pn1 := Lib.hid hz_pn1
              clear hz_pn1
              obtain ⟨pn2, hz_pn2, e_2, hi_pn2⟩ := (show vnP (.num (XX * 1048576)) (uu 2) W501 from hd 2 (by decide))
              have Hz_pn2 := Lib.hid hz_pn2
              clear hz_pn2
              have e_3 : uu 3 = .agg #[.bool ry.b, .slice ry.a ry.n ry.c] := hd 3 (by decide)
              obtain ⟨pn3, pn4, hz_pn3, e_4, hi_pn3, hi_pn4⟩ := (show vnP (.num2 (flo (XX * 1048576) YY) (.int .i64 0)) (uu 4) W501 from hd 4 (by decide))
              have Hz_pn3 := Lib.hid hz_pn3
              clear hz_pn3
              obtain ⟨pn5, pn6, hz_pn5, e_5, hi_pn5, hi_pn6⟩ := (show vnP (.num2 (flo (XX * 1048576) YY) (.int .i64 0)) (uu 5) W501 from hd 5 (by decide))
              have Hz_pn5 := Lib.hid hz_pn5
              clear hz_pn5
              obtain ⟨pn7, hz_pn7, e_6, hi_pn7⟩ := (show vnP (.num (flo (XX * 1048576) YY)) (uu 6) W501 from hd 6 (by decide))
              have Hz_pn7 := Lib.hid hz_pn7
              clear hz_pn7
              obtain ⟨pn8, e_7, hi_pn8⟩ := (show vnP (.numu) (uu 7) W501 from hd 7 (by decide))
              have e_8 : uu 8 = .int .i64 0 := hd 8 (by decide)
              obtain ⟨bk51, kC9, e_9, nge9, ksz9, kno9, nB9⟩ := hJm.bx (9, 2, 56) (by simp) (hLL 9 (by decide))
              obtain ⟨bk52, kC10, e_10, nge10, ksz10, kno10, nB10⟩ := hJm.bx (10, 2, 56) (by simp) (hLL 10 (by decide))
              have e_13 : uu 13 = .int .i64 0 := hd 13 (by decide)
              obtain ⟨_, _, kb11, ke11, kl11⟩ := hJm.st (11, 9, 6, 56) (by simp) (hLL 11 (by decide))
              have kq11 : kb11 = bk51 := by
               have hq := ke11.symm.trans e_9
               injection hq with hq
               injection hq with hq
               injection hq with hq
              subst kq11
              clear ke11
              replace kl11 : Cl W501 (kb11, #[.bool pn7.b, .slice pn7.a pn7.n pn7.c], 56) := by
               rw [show (uu (11, 9, 6, 56).2.2.1) = _ from e_6] at kl11
               exact kl11
              obtain ⟨_, _, kb12, ke12, kl12⟩ := hJm.st (12, 10, 7, 56) (by simp) (hLL 12 (by decide))
              have kq12 : kb12 = bk52 := by
               have hq := ke12.symm.trans e_10
               injection hq with hq
               injection hq with hq
               injection hq with hq
              subst kq12
              clear ke12
              replace kl12 : Cl W501 (kb12, #[.bool pn8.b, .slice pn8.a pn8.n pn8.c], 56) := by
               rw [show (uu (12, 10, 7, 56).2.2.1) = _ from e_7] at kl12
               exact kl12
              have g9 := hJm.em.join nge9 kl11
              have g10 : Es w W501 _ := Es.join g9 (Nat.le_trans hJm.em.ge nge10) (by
               intro p hp
               rcases List.mem_cons.1 hp with rfl | hp
               ·
                intro hc
                refine hJm.ne (9, 2, 56) (10, 2, 56) (by simp) (by simp) (by decide) (hLL 9 (by decide)) (hLL 10 (by decide)) ?_
                rw [e_9, e_10]
                exact congrArg (fun k => Value.pointer (some ⟨k, 0, none⟩)) hc
               have h1 := hJm.em.lt p hp
               have h2 := nge10
               omega) kl12
              clear hd hLL
              simp only [layS, Act.put, zzC, zzD, zzE, Nat.zero_add, Nat.reduceAdd, List.drop_succ_cons, List.drop_zero, List.drop_nil, e_0, e_1, e_2, e_3, e_4, e_5, e_6, e_7, e_8, e_9, e_10, e_13]
              have hJ501 := (((((((((⟨g10, hJm.num⟩ : En w W501 [(kb12, #[.bool pn8.b, .slice pn8.a pn8.n pn8.c], 56), (kb11, #[.bool pn7.b, .slice pn7.a pn7.n pn7.c], 56), (bk4, #[.bool ry.b, .slice ry.a ry.n ry.c], 56), (bk2, #[.bool q1.b, .slice q1.a q1.n q1.c], 56), (bk1, #[.bool rx.b, .slice rx.a rx.n rx.c], 56)] [ry, rx])).more hi_pn1).more hi_pn2).more hi_pn3).more hi_pn4).more hi_pn5).more hi_pn6).more hi_pn7).more hi_pn8
              clear hJm e_0 e_1 e_2 e_3 e_4 e_5 e_6 e_7 e_8 e_9 e_10 e_13 nge9 nB9 ksz9 kno9 g9 nge10 nB10 ksz10 kno10 g10 hi_pn1 hi_pn2 hi_pn3 hi_pn4 hi_pn5 hi_pn6 hi_pn7 hi_pn8
              have f0 : W501.cell? ⟨kb11, 0, none⟩ = some (.bool pn7.b) := hJ501.cell 1 rfl 0 rfl
              have f1 : W501.cell? ⟨kb11, 1, none⟩ = some (.slice pn7.a pn7.n pn7.c) := hJ501.cell 1 rfl 1 rfl
              go_wp2_with fail
              refine (Hc.out pn7 _ Hz_pn7.out (hJ501.num pn7 (by simp))).mono ?_
              rintro zz W502 ⟨rfl, hB⟩
              have hJ502 := hJ501.later hB
              clear hB
              clear f0 f1
              clear hJ501
              go_wp2
              exact bodyPost_ret (v := .tuple #[.int .i64 (cutI (flo (XX * 1048576) YY)), .bool (cutB (flo (XX * 1048576) YY)), .int .i64 0]) (by simp [results, Tryz.results7, go_sem]) rfl ⟨by rw [(fx_good HFQ.out.1).1, (fx_good HFQ.out.1).2.1, (fx_good HFQ.out.1).2.2, HFQ.out.2], hJ502.below⟩
           ·
            have HDV := Lib.hid hdw
            clear hdw
            have hcj := nd_chr hjs hnd
            clear hnd
            have HR : Hid (readsB s.data.toList = false) := behind_bad (f := 0) (g := g) hi HPD.out HDW.out HDOT.out HGI.out (.inr (.inl (by rw [HDV.out]; exact List.cons_ne_nil _ _)))
            by_cases hk : chr s j < 48
            ·
             go_wp2_with (refine stop_op rfl (fun K hK => wp_lenst (.tmp 89) 9 (by kernel_rfl) rfl rfl (hK _ _ ?_)))
             unfold Stop
             try simp only [Act.put, zzC, zzD, zzE]
             go_wp2_with (refine stop_op rfl (fun K hK => wp_lssi (.tmp 88) (.tmp 90) rfl rfl rfl (r := true) (decide_eq_true (by omega)) (hK _ _ ?_)))
             unfold Stop
             try simp only [Act.put, zzC, zzD, zzE]
             go_wp2_with (refine stop_opw (by kernel_rfl) (fun K hK => wp_sidx 9 (.tmp 93) (.tmp 94) (by kernel_rfl) rfl rfl (i := j) rfl (by omega) (hK _ _ ?_)))
             unfold Stop
             try simp only [Act.put, zzC, zzD, zzE]
             go_wp2_with (refine stop_opw (by kernel_rfl) (fun K hK => wp_geq8 (.tmp 95) (.const (.int .u8 48)) rfl rfl rfl (r := false) (decide_eq_false (by omega)) (hK _ _ ?_)))
             unfold Stop
             try simp only [Act.put, zzC, zzD, zzE]
             by_cases c0 : c = 0
             ·
              have HC0 := Lib.hid c0
              clear c0
              go_wp2_with (refine stop_op rfl (fun K hK => wp_eqli (.tmp 119) (.tmp 120) 3 3 rfl rfl rfl rfl (r := true) (decide_eq_true (by have := HJ.out; have := HC0.out; omega)) (hK _ _ ?_)))
              unfold Stop
              try simp only [Act.put, zzC, zzD, zzE]
              go_wp2
              exact bodyPost_ret (v := .tuple #[.int .i64 0, .bool false, .int .i64 10]) (by simp [results, Tryz.results7, go_sem]) rfl ⟨by rw [(fx_bad HR.out).1, (fx_bad HR.out).2.1, (fx_bad HR.out).2.2], hZj.below⟩
             ·
              go_wp2_with (refine stop_op rfl (fun K hK => wp_eqli (.tmp 119) (.tmp 120) 3 3 rfl rfl rfl rfl (r := false) (decide_eq_false (by have := HJ.out; omega)) (hK _ _ ?_)))
              unfold Stop
              try simp only [Act.put, zzC, zzD, zzE]
              go_wp2_with (refine stop_opw (by kernel_rfl) (fun K hK => wp_lenst (.tmp 124) 9 (by kernel_rfl) rfl rfl (hK _ _ ?_)))
              unfold Stop
              try simp only [Act.put, zzC, zzD, zzE]
              go_wp2_with (refine stop_opw (by kernel_rfl) (fun K hK => wp_lssi (.tmp 123) (.tmp 125) rfl rfl rfl (r := true) (decide_eq_true (by omega)) (hK _ _ ?_)))
              unfold Stop
              try simp only [Act.put, zzC, zzD, zzE]
              go_wp2
              exact bodyPost_ret (v := .tuple #[.int .i64 0, .bool false, .int .i64 10]) (by simp [results, Tryz.results7, go_sem]) rfl ⟨by rw [(fx_bad HR.out).1, (fx_bad HR.out).2.1, (fx_bad HR.out).2.2], hZj.below⟩
            ·
             go_wp2_with (refine stop_op rfl (fun K hK => wp_lenst (.tmp 89) 9 (by kernel_rfl) rfl rfl (hK _ _ ?_)))
             unfold Stop
             try simp only [Act.put, zzC, zzD, zzE]
             go_wp2_with (refine stop_op rfl (fun K hK => wp_lssi (.tmp 88) (.tmp 90) rfl rfl rfl (r := true) (decide_eq_true (by omega)) (hK _ _ ?_)))
             unfold Stop
             try simp only [Act.put, zzC, zzD, zzE]
             go_wp2_with (refine stop_opw (by kernel_rfl) (fun K hK => wp_sidx 9 (.tmp 93) (.tmp 94) (by kernel_rfl) rfl rfl (i := j) rfl (by omega) (hK _ _ ?_)))
             unfold Stop
             try simp only [Act.put, zzC, zzD, zzE]
             go_wp2_with (refine stop_opw (by kernel_rfl) (fun K hK => wp_geq8 (.tmp 95) (.const (.int .u8 48)) rfl rfl rfl (r := true) (decide_eq_true (by omega)) (hK _ _ ?_)))
             unfold Stop
             try simp only [Act.put, zzC, zzD, zzE]
             go_wp2_with (refine stop_opw (by kernel_rfl) (fun K hK => wp_sidx 9 (.tmp 99) (.tmp 100) (by kernel_rfl) rfl rfl (i := j) rfl (by omega) (hK _ _ ?_)))
             unfold Stop
             try simp only [Act.put, zzC, zzD, zzE]
             go_wp2_with (refine stop_opw (by kernel_rfl) (fun K hK => wp_leq8 (.tmp 101) (.const (.int .u8 57)) rfl rfl rfl (r := false) (decide_eq_false (by omega)) (hK _ _ ?_)))
             unfold Stop
             try simp only [Act.put, zzC, zzD, zzE]
             by_cases c0 : c = 0
             ·
              have HC0 := Lib.hid c0
              clear c0
              go_wp2_with (refine stop_op rfl (fun K hK => wp_eqli (.tmp 119) (.tmp 120) 3 3 rfl rfl rfl rfl (r := true) (decide_eq_true (by have := HJ.out; have := HC0.out; omega)) (hK _ _ ?_)))
              unfold Stop
              try simp only [Act.put, zzC, zzD, zzE]
              go_wp2
              exact bodyPost_ret (v := .tuple #[.int .i64 0, .bool false, .int .i64 10]) (by simp [results, Tryz.results7, go_sem]) rfl ⟨by rw [(fx_bad HR.out).1, (fx_bad HR.out).2.1, (fx_bad HR.out).2.2], hZj.below⟩
             ·
              go_wp2_with (refine stop_op rfl (fun K hK => wp_eqli (.tmp 119) (.tmp 120) 3 3 rfl rfl rfl rfl (r := false) (decide_eq_false (by have := HJ.out; omega)) (hK _ _ ?_)))
              unfold Stop
              try simp only [Act.put, zzC, zzD, zzE]
              go_wp2_with (refine stop_opw (by kernel_rfl) (fun K hK => wp_lenst (.tmp 124) 9 (by kernel_rfl) rfl rfl (hK _ _ ?_)))
              unfold Stop
              try simp only [Act.put, zzC, zzD, zzE]
              go_wp2_with (refine stop_opw (by kernel_rfl) (fun K hK => wp_lssi (.tmp 123) (.tmp 125) rfl rfl rfl (r := true) (decide_eq_true (by omega)) (hK _ _ ?_)))
              unfold Stop
              try simp only [Act.put, zzC, zzD, zzE]
              go_wp2
              exact bodyPost_ret (v := .tuple #[.int .i64 0, .bool false, .int .i64 10]) (by simp [results, Tryz.results7, go_sem]) rfl ⟨by rw [(fx_bad HR.out).1, (fx_bad HR.out).2.1, (fx_bad HR.out).2.2], hZj.below⟩
        ·
         have HR : Hid (readsB s.data.toList = false) := stop_bad (f := 0) hi HPD.out HDW.out hdot
         go_wp2_with (refine stop_op rfl (fun K hK => wp_sidx 9 (.tmp 81) (.tmp 82) (by kernel_rfl) rfl rfl (i := i) rfl (by omega) (hK _ _ ?_)))
         unfold Stop
         try simp only [Act.put, zzC, zzD, zzE]
         go_wp2_with (refine stop_op rfl (fun K hK => wp_neq8 (.tmp 83) (.const (.int .u8 46)) rfl rfl rfl (r := true) (decide_eq_true (by omega)) (hK _ _ ?_)))
         unfold Stop
         try simp only [Act.put, zzC, zzD, zzE]
         go_wp2
         exact bodyPost_ret (v := .tuple #[.int .i64 0, .bool false, .int .i64 10]) (by simp [results, Tryz.results7, go_sem]) rfl ⟨by rw [(fx_bad HR.out).1, (fx_bad HR.out).2.1, (fx_bad HR.out).2.2], hZ23.below⟩
end Go.Proofs.YtolpfibihialkaaGreatDoor
