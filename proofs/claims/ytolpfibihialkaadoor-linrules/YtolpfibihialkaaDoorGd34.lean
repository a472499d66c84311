/- Parts of the proof. -/
import Derived.Test.YtolpfibihialkaaDoorGd0
import Derived.Test.YtolpfibihialkaaDoorGd33
/- The law LinRules of layer 7, walked: one way of it. No statement of the seat is proved here. -/
namespace Go.Proofs.YtolpfibihialkaaDoor
open Go Go.RowKit
open Classical in
set_option maxRecDepth 100000 in
set_option maxHeartbeats 25600000 in
theorem lru4 {X0 : Nat → Prop} {w : World} (hX : NX X0 w) (ra rb : Sl) (ma mb : Nat) (ca cb : Nat → Nat) (Ra Rb : Nat → Nat → Int) (vi vk tm : Int) (hra : Mi ma ca Ra ra X0 w) (hrb : Mi mb cb Rb rb X0 w) (rga0 : ∀ i j, i < ma → j < ca i → -9223372036854775808 ≤ Ra i j ∧ Ra i j ≤ 9223372036854775807) (rgb0 : ∀ i j, i < mb → j < cb i → -9223372036854775808 ≤ Rb i j ∧ Rb i j ≤ 9223372036854775807) (btm : -9223372036854775808 ≤ tm ∧ tm ≤ 9223372036854775807) (ha : (ma ≤ 7 ∧ ∀ k, k < ma → ca k = ma)) (hb : (mb ≤ 7 ∧ ∀ k, k < mb → cb k = mb)) (eab : ma = mb) (t0 : Hid ((vi < 0))) : Calls Tryd.prog 6 #[ra.v, rb.v, .int .i64 vi, .int .i64 vk, .int .i64 tm] w (PVal (.bool true) w) := by
 have rga := Lib.hid rga0
 clear rga0
 have rgb := Lib.hid rgb0
 clear rgb0
 have EAB := Lib.hid eab
 clear eab
 have ha8 : ma ≤ 7 := ha.1
 have hdb : dtb 2 ma ≤ 3000 := dtb_le (by omega) (by omega)
 have hdb2 : dtb (2 + 2 + ma) ma ≤ 3000 := dtb_le (by omega) (by omega)
 have hdb3 : dtb 8 ma ≤ 3000 := dtb_le (by omega) (by omega)
 have hZ0 := zs_start hX
 have hZ1 := hZ0.more (f := Mi mb cb Rb rb) (Mi.stb _ _ _ _) hrb
 clear hZ0
 have hZ2 := hZ1.more (f := Mi ma ca Ra ra) (Mi.stb _ _ _ _) hra
 clear hZ1
 go_enter Tryd.func6, Tryd.ntmps6
 go_wp2_with fail
 refine (gAwake hZ2.nx).mono ?_
 rintro zz W1 ⟨rfl, hB⟩
 have hZ3 := hZ2.later hB
 clear hB
 clear hZ2
 go_wp2_with fail
 refine (gReadY hZ3.nx ra 7 (hZ3.get 0 (f := Mi ma ca Ra ra) rfl) (by omega) ha.1 ha.2 rga.out).mono ?_
 rintro zz W2 ⟨s1, s1r, rfl, hi_s1, hB⟩
 have hZ4 := hZ3.later hB
 clear hB
 clear hZ3
 have hZ5 := hZ4.more (f := Mt ma (fun _ => ma) Ra s1) (Mt.stb _ _ _ _) hi_s1
 clear hZ4
 clear hi_s1
 go_wp2_with fail
 refine (gReadY hZ5.nx rb 7 (hZ5.get 2 (f := Mi mb cb Rb rb) rfl) (by omega) hb.1 hb.2 rgb.out).mono ?_
 rintro zz W3 ⟨s2, s2r, rfl, hi_s2, hB⟩
 have hZ6 := hZ5.later hB
 clear hB
 clear hZ5
 have hZ7 := hZ6.more (f := Mt mb (fun _ => mb) Rb s2) (Mt.stb _ _ _ _) hi_s2
 clear hZ6
 clear hi_s2
 go_wp2_with (refine stop_opw (by kernel_rfl) (fun K hK => wp_lenq (.tmp 47) 25 39 s1 rfl (by kernel_rfl) rfl (hZ7.get 1 (f := Mt ma (fun _ => ma) Ra s1) rfl).n (hK _ _ ?_)))
 unfold Stop
 try simp only [Act.put, zzC, zzD, zzE]
 go_wp2_with (refine stop_opw (by kernel_rfl) (fun K hK => wp_lenq (.tmp 49) 25 39 s2 rfl (by kernel_rfl) rfl (hZ7.get 0 (f := Mt mb (fun _ => mb) Rb s2) rfl).n (hK _ _ ?_)))
 unfold Stop
 try simp only [Act.put, zzC, zzD, zzE]
 go_wp2_with (refine stop_opw (by kernel_rfl) (fun K hK => wp_neqi (.tmp 48) (.tmp 50) 3 3 rfl rfl rfl rfl (r := false) (decide_eq_false (by have := EAB.out; omega)) (hK _ _ ?_)))
 unfold Stop
 try simp only [Act.put, zzC, zzD, zzE]
 have hZ8 := hZ7.only [Mt ma (fun _ => ma) Ra s1, Mt mb (fun _ => mb) Rb s2] (by simp)
 clear hZ7
 have hZ9 : Zs w W3 X0 X0 [] [Mt ma (fun _ => ma) Ra s1, Mt ma (fun _ => ma) Rb s2] := by
  have h := hZ8
  rw [← EAB.out] at h
  exact h
 clear hZ8
 go_wp2_with fail
 refine (lDet hZ9.nx s1 (e := 2) (by omega) (by omega) (by omega) (hZ9.get 0 (f := Mt ma (fun _ => ma) Ra s1) rfl) (fun (i k : Nat) (hi : i < ma) (hk : k < ma) => sz_int (rga.out i k (by have := EAB.out; omega) (by rw [ha.2 i (by have := EAB.out; omega)]; have := EAB.out; omega)).1 (rga.out i k (by have := EAB.out; omega) (by rw [ha.2 i (by have := EAB.out; omega)]; have := EAB.out; omega)).2)).mono ?_
 rintro zz W4 ⟨q3, rfl, ez_q3, hi_q3, hB⟩
 have hZ10 := hZ9.later hB
 clear hB
 clear hZ9
 have hZ11 := hZ10.more (f := q3.is) q3.stb hi_q3
 clear hZ10
 clear hi_q3
 go_wp2_with (refine stopz_alloc 45 #[.bool false, .slice none 0 0] (.agg #[.bool false, .slice none 0 0]) rfl rfl zv45 rfl hZ11 (fun bk1 X12 W5 hZ12 => ?_))
 clear hZ11
 unfold Stop
 try simp only [Act.put, zzC, zzD, zzE]
 go_wp2_with (refine stopz_store 45 (.tmp 18) (.tmp 55) 0 bk1 0 #[.bool false, .slice none 0 0] 45 2 [.bool q3.b, .slice q3.a q3.n q3.c] #[.bool q3.b, .slice q3.a q3.n q3.c] [(bk1, #[.bool q3.b, .slice q3.a q3.n q3.c], 45)] rfl rfl rfl rfl sz45 hZ12 rfl rfl (zzF (by kernel_rfl)) (by kernel_rfl) (by kernel_rfl) (by kernel_rfl) (fun W6 hZ13 => ?_))
 clear hZ12
 unfold Stop
 try simp only [Act.put, zzC, zzD, zzE]
 have hZ14 := hZ13.release hX
 clear hZ13
 have hZ15 := hZ14.only [Cf bk1 #[.bool q3.b, .slice q3.a q3.n q3.c] 45, q3.is, Mt ma (fun _ => ma) Ra s1, Mt ma (fun _ => ma) Rb s2] (by simp)
 clear hZ14
 go_wp2
 have hM : Zs w W6.drew X0 (fun k => X12 k ∧ k ≠ bk1) [] [Cf bk1 #[.bool q3.b, .slice q3.a q3.n q3.c] 45, q3.is, Mt ma (fun _ => ma) Ra s1, Mt ma (fun _ => ma) Rb s2] ∧ Below W6.heap.size W6 W6.drew := ⟨hZ15.later (Below.refl _ _).drew, (Below.refl _ _).drew⟩
 clear hZ15
 have hVS7 : ∀ k, k ∈ ([veq (s1.v), veq (s2.v), vmt ma (fun _ => ma) (M.mulm ma Ra Rb), vnum (M.dt ma (M.mulm ma Ra Rb)), veq (q3.v), veq (s2.v), vnum (M.dt ma Rb), vnum ((M.dt ma Ra) * (M.dt ma Rb)), veq (.int .i64 ((cmpI (M.dt ma (M.mulm ma Ra Rb)) ((M.dt ma Ra) * (M.dt ma Rb))))), veq (.int .i64 ((cmpI (M.dt ma (M.mulm ma Ra Rb)) ((M.dt ma Ra) * (M.dt ma Rb)))))] : List VF) → VSt k := by
  intro k hk
  simp only [List.mem_cons, List.not_mem_nil, or_false] at hk
  rcases hk with rfl | rfl | rfl | rfl | rfl | rfl | rfl | rfl | rfl | rfl
  ·
   exact veq_st _
  ·
   exact veq_st _
  ·
   exact vmt_st _ _ _
  ·
   exact vnum_st _
  ·
   exact veq_st _
  ·
   exact veq_st _
  ·
   exact vnum_st _
  ·
   exact vnum_st _
  ·
   exact veq_st _
  ·
   exact veq_st _
 refine wp_region_q 10 [some 56, some 57, some 58, some 59, some 60, some 61, some 62, some 63, some 64, some 19] (vzL [veq (s1.v), veq (s2.v), vmt ma (fun _ => ma) (M.mulm ma Ra Rb), vnum (M.dt ma (M.mulm ma Ra Rb)), veq (q3.v), veq (s2.v), vnum (M.dt ma Rb), vnum ((M.dt ma Ra) * (M.dt ma Rb)), veq (.int .i64 ((cmpI (M.dt ma (M.mulm ma Ra Rb)) ((M.dt ma Ra) * (M.dt ma Rb))))), veq (.int .i64 ((cmpI (M.dt ma (M.mulm ma Ra Rb)) ((M.dt ma Ra) * (M.dt ma Rb)))))] (fun k => X12 k ∧ k ≠ bk1)) (fun W => Zs w W X0 (fun k => X12 k ∧ k ≠ bk1) [] [Cf bk1 #[.bool q3.b, .slice q3.a q3.n q3.c] 45, q3.is, Mt ma (fun _ => ma) Ra s1, Mt ma (fun _ => ma) Rb s2] ∧ Below W6.heap.size W6 W) (by kernel_rfl) (by kernel_rfl) (by rfl) (by decide) (by rfl) hM ?_ ?_
 ·
  intro i hl hi LL uu ww aa hLi hLc hJ hd hev hin hold
  clear hM
  obtain ⟨hJ, hJb⟩ := hJ
  obtain rfl | rfl | rfl | rfl | rfl | rfl | rfl | rfl | rfl | rfl : i = 0 ∨ i = 1 ∨ i = 2 ∨ i = 3 ∨ i = 4 ∨ i = 5 ∨ i = 6 ∨ i = 7 ∨ i = 8 ∨ i = 9 := by omega
  ·
   exact .inr ⟨rfl, fun K' hK => wp_move (.tmp 12) rfl (eval_tmp ((hev 12 (by decide)).trans rfl)) (hK _ _ ⟨hJ, hJb⟩ rfl vzL_same)⟩
  ·
   exact .inr ⟨rfl, fun K' hK => wp_move (.tmp 15) rfl (eval_tmp ((hev 15 (by decide)).trans rfl)) (hK _ _ ⟨hJ, hJb⟩ rfl vzL_same)⟩
  ·
   refine .inr ⟨rfl, fun K' hK => ?_⟩
   refine wp_callz (.func 30) #[.tmp 56, .tmp 57] #[25, 25] 30 #[] #[s1.v, s2.v] _ rfl rfl (map2 (eval_tmp ((hin 0 56 rfl).trans (congrArg some (show uu 0 = s1.v from hd 0 (by decide) (by kernel_rfl))))) (eval_tmp ((hin 1 57 rfl).trans (congrArg some (show uu 1 = s2.v from hd 1 (by decide) (by kernel_rfl)))))) rfl (fun _ _ => rfl) (lMul hJ.nx s1 s2 (e := 2 + 2) (hJ.get 2 (f := Mt ma (fun _ => ma) Ra s1) rfl) (hJ.get 3 (f := Mt ma (fun _ => ma) Rb s2) rfl) (fun i k hi hk => ((fun (i k : Nat) (hi : i < ma) (hk : k < ma) => sz_int (rga.out i k (by have := EAB.out; omega) (by rw [ha.2 i (by have := EAB.out; omega)]; have := EAB.out; omega)).1 (rga.out i k (by have := EAB.out; omega) (by rw [ha.2 i (by have := EAB.out; omega)]; have := EAB.out; omega)).2) i k hi hk).mono (Nat.le_add_right _ _)) (fun i k hi hk => ((fun (i k : Nat) (hi : i < ma) (hk : k < ma) => sz_int (rgb.out i k (by have := EAB.out; omega) (by rw [hb.2 i (by have := EAB.out; omega)]; have := EAB.out; omega)).1 (rgb.out i k (by have := EAB.out; omega) (by rw [hb.2 i (by have := EAB.out; omega)]; have := EAB.out; omega)).2) i k hi hk).mono (Nat.le_add_left _ _)) (by omega) (by omega)) ?_
   rintro zz ww2 ⟨s4, rfl, hi_s4, hB⟩
   exact ⟨_, rfl, hK _ _ ⟨hJ.later hB, hJb.trans (hB.mono hJb.size)⟩ ⟨s4, rfl, hi_s4⟩ (vzL_later hVS7 hB)⟩
  ·
   obtain ⟨s4, e2, hi_s4⟩ := (show (vmt ma (fun _ => ma) (M.mulm ma Ra Rb)) (uu 2) (fun k => X12 k ∧ k ≠ bk1) ww from hd 2 (by decide) (by kernel_rfl))
   replace hJ := hJ.more (f := Mt ma (fun _ => ma) (M.mulm ma Ra Rb) s4) (Mt.stb _ _ _ _) hi_s4
   refine .inr ⟨rfl, fun K' hK => ?_⟩
   refine wp_callz (.func 17) #[.tmp 58] #[25] 17 #[] #[s4.v] _ rfl rfl (map1 (eval_tmp ((hin 2 58 rfl).trans (congrArg some e2)))) rfl (fun _ _ => rfl) (lDet hJ.nx s4 (e := (2 + 2 + ma)) (by omega) (by omega) (by omega) (hJ.get 0 (f := Mt ma (fun _ => ma) (M.mulm ma Ra Rb) s4) rfl) (fun (i k : Nat) (hi : i < ma) (hk : k < ma) => sm_sz (fun (t : Nat) (ht : t < ma) => Sz.mul ((fun (i k : Nat) (hi : i < ma) (hk : k < ma) => sz_int (rga.out i k (by have := EAB.out; omega) (by rw [ha.2 i (by have := EAB.out; omega)]; have := EAB.out; omega)).1 (rga.out i k (by have := EAB.out; omega) (by rw [ha.2 i (by have := EAB.out; omega)]; have := EAB.out; omega)).2) i t hi ht) ((fun (i k : Nat) (hi : i < ma) (hk : k < ma) => sz_int (rgb.out i k (by have := EAB.out; omega) (by rw [hb.2 i (by have := EAB.out; omega)]; have := EAB.out; omega)).1 (rgb.out i k (by have := EAB.out; omega) (by rw [hb.2 i (by have := EAB.out; omega)]; have := EAB.out; omega)).2) t k ht hk)))) ?_
   rintro zz ww2 ⟨q5, rfl, ez_q5, hi_q5, hB⟩
   exact ⟨_, rfl, hK _ _ ⟨(hJ.only [Cf bk1 #[.bool q3.b, .slice q3.a q3.n q3.c] 45, q3.is, Mt ma (fun _ => ma) Ra s1, Mt ma (fun _ => ma) Rb s2] (by simp)).later hB, hJb.trans (hB.mono hJb.size)⟩ ⟨q5, rfl, ez_q5, hi_q5⟩ (vzL_later hVS7 hB)⟩
  ·
   exact .inr ⟨rfl, fun K' hK => wp_load 45 (.tmp 18) rfl bk1 0 2 #[.bool q3.b, .slice q3.a q3.n q3.c] #[.bool q3.b, .slice q3.a q3.n q3.c] 45 (hJ.get 0 (f := Cf bk1 #[.bool q3.b, .slice q3.a q3.n q3.c] 45) rfl).1 (eval_tmp ((hev 18 (by decide)).trans rfl)) ag45 sz45 (zzF (by kernel_rfl)) (by kernel_rfl) (hK _ _ ⟨hJ, hJb⟩ rfl vzL_same)⟩
  ·
   exact .inr ⟨rfl, fun K' hK => wp_move (.tmp 15) rfl (eval_tmp ((hev 15 (by decide)).trans rfl)) (hK _ _ ⟨hJ, hJb⟩ rfl vzL_same)⟩
  ·
   refine .inr ⟨rfl, fun K' hK => ?_⟩
   refine wp_callz (.func 17) #[.tmp 61] #[25] 17 #[] #[s2.v] _ rfl rfl (map1 (eval_tmp ((hin 5 61 rfl).trans (congrArg some (show uu 5 = s2.v from hd 5 (by decide) (by kernel_rfl)))))) rfl (fun _ _ => rfl) (lDet hJ.nx s2 (e := 2) (by omega) (by omega) (by omega) (hJ.get 3 (f := Mt ma (fun _ => ma) Rb s2) rfl) (fun (i k : Nat) (hi : i < ma) (hk : k < ma) => sz_int (rgb.out i k (by have := EAB.out; omega) (by rw [hb.2 i (by have := EAB.out; omega)]; have := EAB.out; omega)).1 (rgb.out i k (by have := EAB.out; omega) (by rw [hb.2 i (by have := EAB.out; omega)]; have := EAB.out; omega)).2)) ?_
   rintro zz ww2 ⟨q6, rfl, ez_q6, hi_q6, hB⟩
   exact ⟨_, rfl, hK _ _ ⟨hJ.later hB, hJb.trans (hB.mono hJb.size)⟩ ⟨q6, rfl, ez_q6, hi_q6⟩ (vzL_later hVS7 hB)⟩
  ·
   obtain ⟨q6, e6, ez_q6, hi_q6⟩ := (show (vnum (M.dt ma Rb)) (uu 6) (fun k => X12 k ∧ k ≠ bk1) ww from hd 6 (by decide) (by kernel_rfl))
   replace hJ := hJ.more (f := q6.is) q6.stb hi_q6
   refine .inr ⟨rfl, fun K' hK => ?_⟩
   refine wp_callz (.func 29) #[.tmp 60, .tmp 62] #[45, 45] 29 #[] #[q3.v, q6.v] _ rfl rfl (map2 (eval_tmp ((hin 4 60 rfl).trans (congrArg some (show uu 4 = q3.v from hd 4 (by decide) (by kernel_rfl))))) (eval_tmp ((hin 6 62 rfl).trans (congrArg some e6)))) rfl (fun _ _ => rfl) (zMul hJ.nx (hJ.get 2 (f := q3.is) rfl) (hJ.get 0 (f := q6.is) rfl) ez_q3 ez_q6 (dt_sz (fun (i k : Nat) (hi : i < ma) (hk : k < ma) => sz_int (rga.out i k (by have := EAB.out; omega) (by rw [ha.2 i (by have := EAB.out; omega)]; have := EAB.out; omega)).1 (rga.out i k (by have := EAB.out; omega) (by rw [ha.2 i (by have := EAB.out; omega)]; have := EAB.out; omega)).2)) (dt_sz (fun (i k : Nat) (hi : i < ma) (hk : k < ma) => sz_int (rgb.out i k (by have := EAB.out; omega) (by rw [hb.2 i (by have := EAB.out; omega)]; have := EAB.out; omega)).1 (rgb.out i k (by have := EAB.out; omega) (by rw [hb.2 i (by have := EAB.out; omega)]; have := EAB.out; omega)).2)) (by omega) (by omega)) ?_
   rintro zz ww2 ⟨q7, rfl, ez_q7, hi_q7, hB⟩
   exact ⟨_, rfl, hK _ _ ⟨(hJ.only [Cf bk1 #[.bool q3.b, .slice q3.a q3.n q3.c] 45, q3.is, Mt ma (fun _ => ma) Ra s1, Mt ma (fun _ => ma) Rb s2] (by simp)).later hB, hJb.trans (hB.mono hJb.size)⟩ ⟨q7, rfl, ez_q7, hi_q7⟩ (vzL_later hVS7 hB)⟩
  ·
   obtain ⟨q5, e3, ez_q5, hi_q5⟩ := (show (vnum (M.dt ma (M.mulm ma Ra Rb))) (uu 3) (fun k => X12 k ∧ k ≠ bk1) ww from hd 3 (by decide) (by kernel_rfl))
   obtain ⟨q7, e7, ez_q7, hi_q7⟩ := (show (vnum ((M.dt ma Ra) * (M.dt ma Rb))) (uu 7) (fun k => X12 k ∧ k ≠ bk1) ww from hd 7 (by decide) (by kernel_rfl))
   replace hJ := hJ.more (f := q5.is) q5.stb hi_q5
   replace hJ := hJ.more (f := q7.is) q7.stb hi_q7
   refine .inr ⟨rfl, fun K' hK => ?_⟩
   refine wp_callz (.func 28) #[.tmp 59, .tmp 63] #[45, 45] 28 #[] #[q5.v, q7.v] _ rfl rfl (map2 (eval_tmp ((hin 3 59 rfl).trans (congrArg some e3))) (eval_tmp ((hin 7 63 rfl).trans (congrArg some e7)))) rfl (fun _ _ => rfl) (zCmp (hJ.get 1 (f := q5.is) rfl) (hJ.get 0 (f := q7.is) rfl) ez_q5 ez_q7) ?_
   rintro zz ww2 ⟨rfl, hB⟩
   exact ⟨_, rfl, hK _ _ ⟨(hJ.only [Cf bk1 #[.bool q3.b, .slice q3.a q3.n q3.c] 45, q3.is, Mt ma (fun _ => ma) Ra s1, Mt ma (fun _ => ma) Rb s2] (by simp)).later hB, hJb.trans (hB.mono hJb.size)⟩ rfl (vzL_later hVS7 hB)⟩
  ·
   exact .inr ⟨rfl, fun K' hK => wp_asgn (.tmp 64) rfl (eval_tmp ((hin 8 64 rfl).trans (congrArg some (show uu 8 = .int .i64 ((cmpI (M.dt ma (M.mulm ma Ra Rb)) ((M.dt ma Ra) * (M.dt ma Rb)))) from hd 8 (by decide) (by kernel_rfl))))) (hK _ _ ⟨hJ, hJb⟩ rfl vzL_same)⟩
 clear hM
 intro uu W7 hZ16p hd
 obtain ⟨hZ16, hb7⟩ := hZ16p
 have e_0 : uu 0 = s1.v := hd 0 (by decide)
 have e_1 : uu 1 = s2.v := hd 1 (by decide)
 obtain ⟨s4, e_2, hi_s4⟩ := (show (vmt ma (fun _ => ma) (M.mulm ma Ra Rb)) (uu 2) (fun k => X12 k ∧ k ≠ bk1) W7 from hd 2 (by decide))
 obtain ⟨q5, e_3, ez_q5, hi_q5⟩ := (show (vnum (M.dt ma (M.mulm ma Ra Rb))) (uu 3) (fun k => X12 k ∧ k ≠ bk1) W7 from hd 3 (by decide))
 have e_4 : uu 4 = q3.v := hd 4 (by decide)
 have e_5 : uu 5 = s2.v := hd 5 (by decide)
 obtain ⟨q6, e_6, ez_q6, hi_q6⟩ := (show (vnum (M.dt ma Rb)) (uu 6) (fun k => X12 k ∧ k ≠ bk1) W7 from hd 6 (by decide))
 obtain ⟨q7, e_7, ez_q7, hi_q7⟩ := (show (vnum ((M.dt ma Ra) * (M.dt ma Rb))) (uu 7) (fun k => X12 k ∧ k ≠ bk1) W7 from hd 7 (by decide))
 have e_8 : uu 8 = .int .i64 ((cmpI (M.dt ma (M.mulm ma Ra Rb)) ((M.dt ma Ra) * (M.dt ma Rb)))) := hd 8 (by decide)
 have e_9 : uu 9 = .int .i64 ((cmpI (M.dt ma (M.mulm ma Ra Rb)) ((M.dt ma Ra) * (M.dt ma Rb)))) := hd 9 (by decide)
 clear hd hVS7
 simp only [layS, Act.put, zzC, zzD, zzE, Nat.zero_add, Nat.reduceAdd, List.drop_succ_cons, List.drop_zero, List.drop_nil, e_0, e_1, e_2, e_3, e_4, e_5, e_6, e_7, e_8, e_9]
 clear e_0 e_1 e_2 e_3 e_4 e_5 e_6 e_7 e_8 e_9
 have hZ17 := hZ16.more (f := Mt ma (fun _ => ma) (M.mulm ma Ra Rb) s4) (Mt.stb _ _ _ _) hi_s4
 clear hZ16
 clear hi_s4
 have hZ18 := hZ17.more (f := q5.is) q5.stb hi_q5
 clear hZ17
 clear hi_q5
 have hZ19 := hZ18.more (f := q6.is) q6.stb hi_q6
 clear hZ18
 clear hi_q6
 have hZ20 := hZ19.more (f := q7.is) q7.stb hi_q7
 clear hZ19
 clear hi_q7
 have hZ21 := hZ20.only [Cf bk1 #[.bool q3.b, .slice q3.a q3.n q3.c] 45, q3.is, Mt ma (fun _ => ma) Ra s1, Mt ma (fun _ => ma) Rb s2] (by simp)
 clear hZ20
 go_wp2
 have hM : Zs w W7.drew X0 (fun k => X12 k ∧ k ≠ bk1) [] [Cf bk1 #[.bool q3.b, .slice q3.a q3.n q3.c] 45, q3.is, Mt ma (fun _ => ma) Ra s1, Mt ma (fun _ => ma) Rb s2] ∧ Below W7.heap.size W7 W7.drew := ⟨hZ21.later (Below.refl _ _).drew, (Below.refl _ _).drew⟩
 clear hZ21
 have hVS8 : ∀ k, k ∈ ([veq (s1.v), vmt ma (fun _ => ma) (fun i j => Ra j i), vnum (M.dt ma (fun i j => Ra j i)), veq (q3.v), veq (.int .i64 ((cmpI (M.dt ma (fun i j => Ra j i)) (M.dt ma Ra)))), veq (.int .i64 ((cmpI (M.dt ma (fun i j => Ra j i)) (M.dt ma Ra))))] : List VF) → VSt k := by
  intro k hk
  simp only [List.mem_cons, List.not_mem_nil, or_false] at hk
  rcases hk with rfl | rfl | rfl | rfl | rfl | rfl
  ·
   exact veq_st _
  ·
   exact vmt_st _ _ _
  ·
   exact vnum_st _
  ·
   exact veq_st _
  ·
   exact veq_st _
  ·
   exact veq_st _
 refine wp_region_q 6 [some 65, some 66, some 67, some 68, some 69, some 20] (vzL [veq (s1.v), vmt ma (fun _ => ma) (fun i j => Ra j i), vnum (M.dt ma (fun i j => Ra j i)), veq (q3.v), veq (.int .i64 ((cmpI (M.dt ma (fun i j => Ra j i)) (M.dt ma Ra)))), veq (.int .i64 ((cmpI (M.dt ma (fun i j => Ra j i)) (M.dt ma Ra))))] (fun k => X12 k ∧ k ≠ bk1)) (fun W => Zs w W X0 (fun k => X12 k ∧ k ≠ bk1) [] [Cf bk1 #[.bool q3.b, .slice q3.a q3.n q3.c] 45, q3.is, Mt ma (fun _ => ma) Ra s1, Mt ma (fun _ => ma) Rb s2] ∧ Below W7.heap.size W7 W) (by kernel_rfl) (by kernel_rfl) (by rfl) (by decide) (by rfl) hM ?_ ?_
 ·
  intro i hl hi LL uu ww aa hLi hLc hJ hd hev hin hold
  clear hM
  obtain ⟨hJ, hJb⟩ := hJ
  obtain rfl | rfl | rfl | rfl | rfl | rfl : i = 0 ∨ i = 1 ∨ i = 2 ∨ i = 3 ∨ i = 4 ∨ i = 5 := by omega
  ·
   exact .inr ⟨rfl, fun K' hK => wp_move (.tmp 12) rfl (eval_tmp ((hev 12 (by decide)).trans rfl)) (hK _ _ ⟨hJ, hJb⟩ rfl vzL_same)⟩
  ·
   refine .inr ⟨rfl, fun K' hK => ?_⟩
   refine wp_callz (.func 31) #[.tmp 65] #[25] 31 #[] #[s1.v] _ rfl rfl (map1 (eval_tmp ((hin 0 65 rfl).trans (congrArg some (show uu 0 = s1.v from hd 0 (by decide) (by kernel_rfl)))))) rfl (fun _ _ => rfl) (lTurned hJ.nx s1 (by omega) (hJ.get 2 (f := Mt ma (fun _ => ma) Ra s1) rfl)) ?_
   rintro zz ww2 ⟨s8, rfl, hi_s8, hB⟩
   exact ⟨_, rfl, hK _ _ ⟨hJ.later hB, hJb.trans (hB.mono hJb.size)⟩ ⟨s8, rfl, hi_s8⟩ (vzL_later hVS8 hB)⟩
  ·
   obtain ⟨s8, e1, hi_s8⟩ := (show (vmt ma (fun _ => ma) (fun i j => Ra j i)) (uu 1) (fun k => X12 k ∧ k ≠ bk1) ww from hd 1 (by decide) (by kernel_rfl))
   replace hJ := hJ.more (f := Mt ma (fun _ => ma) (fun i j => Ra j i) s8) (Mt.stb _ _ _ _) hi_s8
   refine .inr ⟨rfl, fun K' hK => ?_⟩
   refine wp_callz (.func 17) #[.tmp 66] #[25] 17 #[] #[s8.v] _ rfl rfl (map1 (eval_tmp ((hin 1 66 rfl).trans (congrArg some e1)))) rfl (fun _ _ => rfl) (lDet hJ.nx s8 (e := 2) (by omega) (by omega) (by omega) (hJ.get 0 (f := Mt ma (fun _ => ma) (fun i j => Ra j i) s8) rfl) (fun (i j : Nat) (hi : i < ma) (hj : j < ma) => (fun (i k : Nat) (hi : i < ma) (hk : k < ma) => sz_int (rga.out i k (by have := EAB.out; omega) (by rw [ha.2 i (by have := EAB.out; omega)]; have := EAB.out; omega)).1 (rga.out i k (by have := EAB.out; omega) (by rw [ha.2 i (by have := EAB.out; omega)]; have := EAB.out; omega)).2) j i hj hi)) ?_
   rintro zz ww2 ⟨q9, rfl, ez_q9, hi_q9, hB⟩
   exact ⟨_, rfl, hK _ _ ⟨(hJ.only [Cf bk1 #[.bool q3.b, .slice q3.a q3.n q3.c] 45, q3.is, Mt ma (fun _ => ma) Ra s1, Mt ma (fun _ => ma) Rb s2] (by simp)).later hB, hJb.trans (hB.mono hJb.size)⟩ ⟨q9, rfl, ez_q9, hi_q9⟩ (vzL_later hVS8 hB)⟩
  ·
   exact .inr ⟨rfl, fun K' hK => wp_load 45 (.tmp 18) rfl bk1 0 2 #[.bool q3.b, .slice q3.a q3.n q3.c] #[.bool q3.b, .slice q3.a q3.n q3.c] 45 (hJ.get 0 (f := Cf bk1 #[.bool q3.b, .slice q3.a q3.n q3.c] 45) rfl).1 (eval_tmp ((hev 18 (by decide)).trans rfl)) ag45 sz45 (zzF (by kernel_rfl)) (by kernel_rfl) (hK _ _ ⟨hJ, hJb⟩ rfl vzL_same)⟩
  ·
   obtain ⟨q9, e2, ez_q9, hi_q9⟩ := (show (vnum (M.dt ma (fun i j => Ra j i))) (uu 2) (fun k => X12 k ∧ k ≠ bk1) ww from hd 2 (by decide) (by kernel_rfl))
   replace hJ := hJ.more (f := q9.is) q9.stb hi_q9
   refine .inr ⟨rfl, fun K' hK => ?_⟩
   refine wp_callz (.func 28) #[.tmp 67, .tmp 68] #[45, 45] 28 #[] #[q9.v, q3.v] _ rfl rfl (map2 (eval_tmp ((hin 2 67 rfl).trans (congrArg some e2))) (eval_tmp ((hin 3 68 rfl).trans (congrArg some (show uu 3 = q3.v from hd 3 (by decide) (by kernel_rfl)))))) rfl (fun _ _ => rfl) (zCmp (hJ.get 0 (f := q9.is) rfl) (hJ.get 2 (f := q3.is) rfl) ez_q9 ez_q3) ?_
   rintro zz ww2 ⟨rfl, hB⟩
   exact ⟨_, rfl, hK _ _ ⟨(hJ.only [Cf bk1 #[.bool q3.b, .slice q3.a q3.n q3.c] 45, q3.is, Mt ma (fun _ => ma) Ra s1, Mt ma (fun _ => ma) Rb s2] (by simp)).later hB, hJb.trans (hB.mono hJb.size)⟩ rfl (vzL_later hVS8 hB)⟩
  ·
   exact .inr ⟨rfl, fun K' hK => wp_asgn (.tmp 69) rfl (eval_tmp ((hin 4 69 rfl).trans (congrArg some (show uu 4 = .int .i64 ((cmpI (M.dt ma (fun i j => Ra j i)) (M.dt ma Ra))) from hd 4 (by decide) (by kernel_rfl))))) (hK _ _ ⟨hJ, hJb⟩ rfl vzL_same)⟩
 clear hM
 intro uu W8 hZ22p hd
 obtain ⟨hZ22, hb8⟩ := hZ22p
 have e_0 : uu 0 = s1.v := hd 0 (by decide)
 obtain ⟨s8, e_1, hi_s8⟩ := (show (vmt ma (fun _ => ma) (fun i j => Ra j i)) (uu 1) (fun k => X12 k ∧ k ≠ bk1) W8 from hd 1 (by decide))
 obtain ⟨q9, e_2, ez_q9, hi_q9⟩ := (show (vnum (M.dt ma (fun i j => Ra j i))) (uu 2) (fun k => X12 k ∧ k ≠ bk1) W8 from hd 2 (by decide))
 have e_3 : uu 3 = q3.v := hd 3 (by decide)
 have e_4 : uu 4 = .int .i64 ((cmpI (M.dt ma (fun i j => Ra j i)) (M.dt ma Ra))) := hd 4 (by decide)
 have e_5 : uu 5 = .int .i64 ((cmpI (M.dt ma (fun i j => Ra j i)) (M.dt ma Ra))) := hd 5 (by decide)
 clear hd hVS8
 simp only [layS, Act.put, zzC, zzD, zzE, Nat.zero_add, Nat.reduceAdd, List.drop_succ_cons, List.drop_zero, List.drop_nil, e_0, e_1, e_2, e_3, e_4, e_5]
 clear e_0 e_1 e_2 e_3 e_4 e_5
 have hZ23 := hZ22.more (f := Mt ma (fun _ => ma) (fun i j => Ra j i) s8) (Mt.stb _ _ _ _) hi_s8
 clear hZ22
 clear hi_s8
 have hZ24 := hZ23.more (f := q9.is) q9.stb hi_q9
 clear hZ23
 clear hi_q9
 have hZ25 := hZ24.only [Cf bk1 #[.bool q3.b, .slice q3.a q3.n q3.c] 45, q3.is, Mt ma (fun _ => ma) Ra s1, Mt ma (fun _ => ma) Rb s2] (by simp)
 clear hZ24
 go_wp2_with (refine stop_op rfl (fun K hK => wp_lssi (.tmp 70) (.const (.int .i64 0)) rfl rfl rfl (r := true) (decide_eq_true (by have := t0.out; omega)) (hK _ _ ?_)))
 unfold Stop
 try simp only [Act.put, zzC, zzD, zzE]
 go_wp2_with (refine stop_opw (by kernel_rfl) (fun K hK => wp_eqli (.tmp 95) (.const (.int .i64 0)) 3 3 rfl rfl rfl rfl (r := true) (ceq_t (M.dt_mul ma Ra Rb)) (hK _ _ ?_)))
 unfold Stop
 try simp only [Act.put, zzC, zzD, zzE]
 go_wp2_with (refine stop_opw (by kernel_rfl) (fun K hK => wp_eqli (.tmp 99) (.const (.int .i64 0)) 3 3 rfl rfl rfl rfl (r := true) (ceq_t (M.dt_tr ma Ra)) (hK _ _ ?_)))
 unfold Stop
 try simp only [Act.put, zzC, zzD, zzE]
 go_wp2
 go_ret
 exact ⟨rfl, hZ25.below⟩
end Go.Proofs.YtolpfibihialkaaDoor

/- The law LinRules of layer 7, walked: one way of it. No statement of the seat is proved here. -/
namespace Go.Proofs.YtolpfibihialkaaDoor
open Go Go.RowKit
open Classical in
set_option maxRecDepth 100000 in
set_option maxHeartbeats 25600000 in
theorem lru5 {X0 : Nat → Prop} {w : World} (hX : NX X0 w) (ra rb : Sl) (ma mb : Nat) (ca cb : Nat → Nat) (Ra Rb : Nat → Nat → Int) (vi vk tm : Int) (hra : Mi ma ca Ra ra X0 w) (hrb : Mi mb cb Rb rb X0 w) (rga0 : ∀ i j, i < ma → j < ca i → -9223372036854775808 ≤ Ra i j ∧ Ra i j ≤ 9223372036854775807) (rgb0 : ∀ i j, i < mb → j < cb i → -9223372036854775808 ≤ Rb i j ∧ Rb i j ≤ 9223372036854775807) (btm : -9223372036854775808 ≤ tm ∧ tm ≤ 9223372036854775807) (ha : (ma ≤ 7 ∧ ∀ k, k < ma → ca k = ma)) (hb : (mb ≤ 7 ∧ ∀ k, k < mb → cb k = mb)) (eab : ma = mb) (t0 : Hid (¬ (vi < 0))) (t1 : Hid ((vk < 0))) : Calls Tryd.prog 6 #[ra.v, rb.v, .int .i64 vi, .int .i64 vk, .int .i64 tm] w (PVal (.bool true) w) := by
 have rga := Lib.hid rga0
 clear rga0
 have rgb := Lib.hid rgb0
 clear rgb0
 have EAB := Lib.hid eab
 clear eab
 have ha8 : ma ≤ 7 := ha.1
 have hdb : dtb 2 ma ≤ 3000 := dtb_le (by omega) (by omega)
 have hdb2 : dtb (2 + 2 + ma) ma ≤ 3000 := dtb_le (by omega) (by omega)
 have hdb3 : dtb 8 ma ≤ 3000 := dtb_le (by omega) (by omega)
 have hZ0 := zs_start hX
 have hZ1 := hZ0.more (f := Mi mb cb Rb rb) (Mi.stb _ _ _ _) hrb
 clear hZ0
 have hZ2 := hZ1.more (f := Mi ma ca Ra ra) (Mi.stb _ _ _ _) hra
 clear hZ1
 go_enter Tryd.func6, Tryd.ntmps6
 go_wp2_with fail
 refine (gAwake hZ2.nx).mono ?_
 rintro zz W1 ⟨rfl, hB⟩
 have hZ3 := hZ2.later hB
 clear hB
 clear hZ2
 go_wp2_with fail
 refine (gReadY hZ3.nx ra 7 (hZ3.get 0 (f := Mi ma ca Ra ra) rfl) (by omega) ha.1 ha.2 rga.out).mono ?_
 rintro zz W2 ⟨s1, s1r, rfl, hi_s1, hB⟩
 have hZ4 := hZ3.later hB
 clear hB
 clear hZ3
 have hZ5 := hZ4.more (f := Mt ma (fun _ => ma) Ra s1) (Mt.stb _ _ _ _) hi_s1
 clear hZ4
 clear hi_s1
 go_wp2_with fail
 refine (gReadY hZ5.nx rb 7 (hZ5.get 2 (f := Mi mb cb Rb rb) rfl) (by omega) hb.1 hb.2 rgb.out).mono ?_
 rintro zz W3 ⟨s2, s2r, rfl, hi_s2, hB⟩
 have hZ6 := hZ5.later hB
 clear hB
 clear hZ5
 have hZ7 := hZ6.more (f := Mt mb (fun _ => mb) Rb s2) (Mt.stb _ _ _ _) hi_s2
 clear hZ6
 clear hi_s2
 go_wp2_with (refine stop_opw (by kernel_rfl) (fun K hK => wp_lenq (.tmp 47) 25 39 s1 rfl (by kernel_rfl) rfl (hZ7.get 1 (f := Mt ma (fun _ => ma) Ra s1) rfl).n (hK _ _ ?_)))
 unfold Stop
 try simp only [Act.put, zzC, zzD, zzE]
 go_wp2_with (refine stop_opw (by kernel_rfl) (fun K hK => wp_lenq (.tmp 49) 25 39 s2 rfl (by kernel_rfl) rfl (hZ7.get 0 (f := Mt mb (fun _ => mb) Rb s2) rfl).n (hK _ _ ?_)))
 unfold Stop
 try simp only [Act.put, zzC, zzD, zzE]
 go_wp2_with (refine stop_opw (by kernel_rfl) (fun K hK => wp_neqi (.tmp 48) (.tmp 50) 3 3 rfl rfl rfl rfl (r := false) (decide_eq_false (by have := EAB.out; omega)) (hK _ _ ?_)))
 unfold Stop
 try simp only [Act.put, zzC, zzD, zzE]
 have hZ8 := hZ7.only [Mt ma (fun _ => ma) Ra s1, Mt mb (fun _ => mb) Rb s2] (by simp)
 clear hZ7
 have hZ9 : Zs w W3 X0 X0 [] [Mt ma (fun _ => ma) Ra s1, Mt ma (fun _ => ma) Rb s2] := by
  have h := hZ8
  rw [← EAB.out] at h
  exact h
 clear hZ8
 go_wp2_with fail
 refine (lDet hZ9.nx s1 (e := 2) (by omega) (by omega) (by omega) (hZ9.get 0 (f := Mt ma (fun _ => ma) Ra s1) rfl) (fun (i k : Nat) (hi : i < ma) (hk : k < ma) => sz_int (rga.out i k (by have := EAB.out; omega) (by rw [ha.2 i (by have := EAB.out; omega)]; have := EAB.out; omega)).1 (rga.out i k (by have := EAB.out; omega) (by rw [ha.2 i (by have := EAB.out; omega)]; have := EAB.out; omega)).2)).mono ?_
 rintro zz W4 ⟨q3, rfl, ez_q3, hi_q3, hB⟩
 have hZ10 := hZ9.later hB
 clear hB
 clear hZ9
 have hZ11 := hZ10.more (f := q3.is) q3.stb hi_q3
 clear hZ10
 clear hi_q3
 go_wp2_with (refine stopz_alloc 45 #[.bool false, .slice none 0 0] (.agg #[.bool false, .slice none 0 0]) rfl rfl zv45 rfl hZ11 (fun bk1 X12 W5 hZ12 => ?_))
 clear hZ11
 unfold Stop
 try simp only [Act.put, zzC, zzD, zzE]
 go_wp2_with (refine stopz_store 45 (.tmp 18) (.tmp 55) 0 bk1 0 #[.bool false, .slice none 0 0] 45 2 [.bool q3.b, .slice q3.a q3.n q3.c] #[.bool q3.b, .slice q3.a q3.n q3.c] [(bk1, #[.bool q3.b, .slice q3.a q3.n q3.c], 45)] rfl rfl rfl rfl sz45 hZ12 rfl rfl (zzF (by kernel_rfl)) (by kernel_rfl) (by kernel_rfl) (by kernel_rfl) (fun W6 hZ13 => ?_))
 clear hZ12
 unfold Stop
 try simp only [Act.put, zzC, zzD, zzE]
 have hZ14 := hZ13.release hX
 clear hZ13
 have hZ15 := hZ14.only [Cf bk1 #[.bool q3.b, .slice q3.a q3.n q3.c] 45, q3.is, Mt ma (fun _ => ma) Ra s1, Mt ma (fun _ => ma) Rb s2] (by simp)
 clear hZ14
 go_wp2
 have hM : Zs w W6.drew X0 (fun k => X12 k ∧ k ≠ bk1) [] [Cf bk1 #[.bool q3.b, .slice q3.a q3.n q3.c] 45, q3.is, Mt ma (fun _ => ma) Ra s1, Mt ma (fun _ => ma) Rb s2] ∧ Below W6.heap.size W6 W6.drew := ⟨hZ15.later (Below.refl _ _).drew, (Below.refl _ _).drew⟩
 clear hZ15
 have hVS7 : ∀ k, k ∈ ([veq (s1.v), veq (s2.v), vmt ma (fun _ => ma) (M.mulm ma Ra Rb), vnum (M.dt ma (M.mulm ma Ra Rb)), veq (q3.v), veq (s2.v), vnum (M.dt ma Rb), vnum ((M.dt ma Ra) * (M.dt ma Rb)), veq (.int .i64 ((cmpI (M.dt ma (M.mulm ma Ra Rb)) ((M.dt ma Ra) * (M.dt ma Rb))))), veq (.int .i64 ((cmpI (M.dt ma (M.mulm ma Ra Rb)) ((M.dt ma Ra) * (M.dt ma Rb)))))] : List VF) → VSt k := by
  intro k hk
  simp only [List.mem_cons, List.not_mem_nil, or_false] at hk
  rcases hk with rfl | rfl | rfl | rfl | rfl | rfl | rfl | rfl | rfl | rfl
  ·
   exact veq_st _
  ·
   exact veq_st _
  ·
   exact vmt_st _ _ _
  ·
   exact vnum_st _
  ·
   exact veq_st _
  ·
   exact veq_st _
  ·
   exact vnum_st _
  ·
   exact vnum_st _
  ·
   exact veq_st _
  ·
   exact veq_st _
 refine wp_region_q 10 [some 56, some 57, some 58, some 59, some 60, some 61, some 62, some 63, some 64, some 19] (vzL [veq (s1.v), veq (s2.v), vmt ma (fun _ => ma) (M.mulm ma Ra Rb), vnum (M.dt ma (M.mulm ma Ra Rb)), veq (q3.v), veq (s2.v), vnum (M.dt ma Rb), vnum ((M.dt ma Ra) * (M.dt ma Rb)), veq (.int .i64 ((cmpI (M.dt ma (M.mulm ma Ra Rb)) ((M.dt ma Ra) * (M.dt ma Rb))))), veq (.int .i64 ((cmpI (M.dt ma (M.mulm ma Ra Rb)) ((M.dt ma Ra) * (M.dt ma Rb)))))] (fun k => X12 k ∧ k ≠ bk1)) (fun W => Zs w W X0 (fun k => X12 k ∧ k ≠ bk1) [] [Cf bk1 #[.bool q3.b, .slice q3.a q3.n q3.c] 45, q3.is, Mt ma (fun _ => ma) Ra s1, Mt ma (fun _ => ma) Rb s2] ∧ Below W6.heap.size W6 W) (by kernel_rfl) (by kernel_rfl) (by rfl) (by decide) (by rfl) hM ?_ ?_
 ·
  intro i hl hi LL uu ww aa hLi hLc hJ hd hev hin hold
  clear hM
  obtain ⟨hJ, hJb⟩ := hJ
  obtain rfl | rfl | rfl | rfl | rfl | rfl | rfl | rfl | rfl | rfl : i = 0 ∨ i = 1 ∨ i = 2 ∨ i = 3 ∨ i = 4 ∨ i = 5 ∨ i = 6 ∨ i = 7 ∨ i = 8 ∨ i = 9 := by omega
  ·
   exact .inr ⟨rfl, fun K' hK => wp_move (.tmp 12) rfl (eval_tmp ((hev 12 (by decide)).trans rfl)) (hK _ _ ⟨hJ, hJb⟩ rfl vzL_same)⟩
  ·
   exact .inr ⟨rfl, fun K' hK => wp_move (.tmp 15) rfl (eval_tmp ((hev 15 (by decide)).trans rfl)) (hK _ _ ⟨hJ, hJb⟩ rfl vzL_same)⟩
  ·
   refine .inr ⟨rfl, fun K' hK => ?_⟩
   refine wp_callz (.func 30) #[.tmp 56, .tmp 57] #[25, 25] 30 #[] #[s1.v, s2.v] _ rfl rfl (map2 (eval_tmp ((hin 0 56 rfl).trans (congrArg some (show uu 0 = s1.v from hd 0 (by decide) (by kernel_rfl))))) (eval_tmp ((hin 1 57 rfl).trans (congrArg some (show uu 1 = s2.v from hd 1 (by decide) (by kernel_rfl)))))) rfl (fun _ _ => rfl) (lMul hJ.nx s1 s2 (e := 2 + 2) (hJ.get 2 (f := Mt ma (fun _ => ma) Ra s1) rfl) (hJ.get 3 (f := Mt ma (fun _ => ma) Rb s2) rfl) (fun i k hi hk => ((fun (i k : Nat) (hi : i < ma) (hk : k < ma) => sz_int (rga.out i k (by have := EAB.out; omega) (by rw [ha.2 i (by have := EAB.out; omega)]; have := EAB.out; omega)).1 (rga.out i k (by have := EAB.out; omega) (by rw [ha.2 i (by have := EAB.out; omega)]; have := EAB.out; omega)).2) i k hi hk).mono (Nat.le_add_right _ _)) (fun i k hi hk => ((fun (i k : Nat) (hi : i < ma) (hk : k < ma) => sz_int (rgb.out i k (by have := EAB.out; omega) (by rw [hb.2 i (by have := EAB.out; omega)]; have := EAB.out; omega)).1 (rgb.out i k (by have := EAB.out; omega) (by rw [hb.2 i (by have := EAB.out; omega)]; have := EAB.out; omega)).2) i k hi hk).mono (Nat.le_add_left _ _)) (by omega) (by omega)) ?_
   rintro zz ww2 ⟨s4, rfl, hi_s4, hB⟩
   exact ⟨_, rfl, hK _ _ ⟨hJ.later hB, hJb.trans (hB.mono hJb.size)⟩ ⟨s4, rfl, hi_s4⟩ (vzL_later hVS7 hB)⟩
  ·
   obtain ⟨s4, e2, hi_s4⟩ := (show (vmt ma (fun _ => ma) (M.mulm ma Ra Rb)) (uu 2) (fun k => X12 k ∧ k ≠ bk1) ww from hd 2 (by decide) (by kernel_rfl))
   replace hJ := hJ.more (f := Mt ma (fun _ => ma) (M.mulm ma Ra Rb) s4) (Mt.stb _ _ _ _) hi_s4
   refine .inr ⟨rfl, fun K' hK => ?_⟩
   refine wp_callz (.func 17) #[.tmp 58] #[25] 17 #[] #[s4.v] _ rfl rfl (map1 (eval_tmp ((hin 2 58 rfl).trans (congrArg some e2)))) rfl (fun _ _ => rfl) (lDet hJ.nx s4 (e := (2 + 2 + ma)) (by omega) (by omega) (by omega) (hJ.get 0 (f := Mt ma (fun _ => ma) (M.mulm ma Ra Rb) s4) rfl) (fun (i k : Nat) (hi : i < ma) (hk : k < ma) => sm_sz (fun (t : Nat) (ht : t < ma) => Sz.mul ((fun (i k : Nat) (hi : i < ma) (hk : k < ma) => sz_int (rga.out i k (by have := EAB.out; omega) (by rw [ha.2 i (by have := EAB.out; omega)]; have := EAB.out; omega)).1 (rga.out i k (by have := EAB.out; omega) (by rw [ha.2 i (by have := EAB.out; omega)]; have := EAB.out; omega)).2) i t hi ht) ((fun (i k : Nat) (hi : i < ma) (hk : k < ma) => sz_int (rgb.out i k (by have := EAB.out; omega) (by rw [hb.2 i (by have := EAB.out; omega)]; have := EAB.out; omega)).1 (rgb.out i k (by have := EAB.out; omega) (by rw [hb.2 i (by have := EAB.out; omega)]; have := EAB.out; omega)).2) t k ht hk)))) ?_
   rintro zz ww2 ⟨q5, rfl, ez_q5, hi_q5, hB⟩
   exact ⟨_, rfl, hK _ _ ⟨(hJ.only [Cf bk1 #[.bool q3.b, .slice q3.a q3.n q3.c] 45, q3.is, Mt ma (fun _ => ma) Ra s1, Mt ma (fun _ => ma) Rb s2] (by simp)).later hB, hJb.trans (hB.mono hJb.size)⟩ ⟨q5, rfl, ez_q5, hi_q5⟩ (vzL_later hVS7 hB)⟩
  ·
   exact .inr ⟨rfl, fun K' hK => wp_load 45 (.tmp 18) rfl bk1 0 2 #[.bool q3.b, .slice q3.a q3.n q3.c] #[.bool q3.b, .slice q3.a q3.n q3.c] 45 (hJ.get 0 (f := Cf bk1 #[.bool q3.b, .slice q3.a q3.n q3.c] 45) rfl).1 (eval_tmp ((hev 18 (by decide)).trans rfl)) ag45 sz45 (zzF (by kernel_rfl)) (by kernel_rfl) (hK _ _ ⟨hJ, hJb⟩ rfl vzL_same)⟩
  ·
   exact .inr ⟨rfl, fun K' hK => wp_move (.tmp 15) rfl (eval_tmp ((hev 15 (by decide)).trans rfl)) (hK _ _ ⟨hJ, hJb⟩ rfl vzL_same)⟩
  ·
   refine .inr ⟨rfl, fun K' hK => ?_⟩
   refine wp_callz (.func 17) #[.tmp 61] #[25] 17 #[] #[s2.v] _ rfl rfl (map1 (eval_tmp ((hin 5 61 rfl).trans (congrArg some (show uu 5 = s2.v from hd 5 (by decide) (by kernel_rfl)))))) rfl (fun _ _ => rfl) (lDet hJ.nx s2 (e := 2) (by omega) (by omega) (by omega) (hJ.get 3 (f := Mt ma (fun _ => ma) Rb s2) rfl) (fun (i k : Nat) (hi : i < ma) (hk : k < ma) => sz_int (rgb.out i k (by have := EAB.out; omega) (by rw [hb.2 i (by have := EAB.out; omega)]; have := EAB.out; omega)).1 (rgb.out i k (by have := EAB.out; omega) (by rw [hb.2 i (by have := EAB.out; omega)]; have := EAB.out; omega)).2)) ?_
   rintro zz ww2 ⟨q6, rfl, ez_q6, hi_q6, hB⟩
   exact ⟨_, rfl, hK _ _ ⟨hJ.later hB, hJb.trans (hB.mono hJb.size)⟩ ⟨q6, rfl, ez_q6, hi_q6⟩ (vzL_later hVS7 hB)⟩
  ·
   obtain ⟨q6, e6, ez_q6, hi_q6⟩ := (show (vnum (M.dt ma Rb)) (uu 6) (fun k => X12 k ∧ k ≠ bk1) ww from hd 6 (by decide) (by kernel_rfl))
   replace hJ := hJ.more (f := q6.is) q6.stb hi_q6
   refine .inr ⟨rfl, fun K' hK => ?_⟩
   refine wp_callz (.func 29) #[.tmp 60, .tmp 62] #[45, 45] 29 #[] #[q3.v, q6.v] _ rfl rfl (map2 (eval_tmp ((hin 4 60 rfl).trans (congrArg some (show uu 4 = q3.v from hd 4 (by decide) (by kernel_rfl))))) (eval_tmp ((hin 6 62 rfl).trans (congrArg some e6)))) rfl (fun _ _ => rfl) (zMul hJ.nx (hJ.get 2 (f := q3.is) rfl) (hJ.get 0 (f := q6.is) rfl) ez_q3 ez_q6 (dt_sz (fun (i k : Nat) (hi : i < ma) (hk : k < ma) => sz_int (rga.out i k (by have := EAB.out; omega) (by rw [ha.2 i (by have := EAB.out; omega)]; have := EAB.out; omega)).1 (rga.out i k (by have := EAB.out; omega) (by rw [ha.2 i (by have := EAB.out; omega)]; have := EAB.out; omega)).2)) (dt_sz (fun (i k : Nat) (hi : i < ma) (hk : k < ma) => sz_int (rgb.out i k (by have := EAB.out; omega) (by rw [hb.2 i (by have := EAB.out; omega)]; have := EAB.out; omega)).1 (rgb.out i k (by have := EAB.out; omega) (by rw [hb.2 i (by have := EAB.out; omega)]; have := EAB.out; omega)).2)) (by omega) (by omega)) ?_
   rintro zz ww2 ⟨q7, rfl, ez_q7, hi_q7, hB⟩
   exact ⟨_, rfl, hK _ _ ⟨(hJ.only [Cf bk1 #[.bool q3.b, .slice q3.a q3.n q3.c] 45, q3.is, Mt ma (fun _ => ma) Ra s1, Mt ma (fun _ => ma) Rb s2] (by simp)).later hB, hJb.trans (hB.mono hJb.size)⟩ ⟨q7, rfl, ez_q7, hi_q7⟩ (vzL_later hVS7 hB)⟩
  ·
   obtain ⟨q5, e3, ez_q5, hi_q5⟩ := (show (vnum (M.dt ma (M.mulm ma Ra Rb))) (uu 3) (fun k => X12 k ∧ k ≠ bk1) ww from hd 3 (by decide) (by kernel_rfl))
   obtain ⟨q7, e7, ez_q7, hi_q7⟩ := (show (vnum ((M.dt ma Ra) * (M.dt ma Rb))) (uu 7) (fun k => X12 k ∧ k ≠ bk1) ww from hd 7 (by decide) (by kernel_rfl))
   replace hJ := hJ.more (f := q5.is) q5.stb hi_q5
   replace hJ := hJ.more (f := q7.is) q7.stb hi_q7
   refine .inr ⟨rfl, fun K' hK => ?_⟩
   refine wp_callz (.func 28) #[.tmp 59, .tmp 63] #[45, 45] 28 #[] #[q5.v, q7.v] _ rfl rfl (map2 (eval_tmp ((hin 3 59 rfl).trans (congrArg some e3))) (eval_tmp ((hin 7 63 rfl).trans (congrArg some e7)))) rfl (fun _ _ => rfl) (zCmp (hJ.get 1 (f := q5.is) rfl) (hJ.get 0 (f := q7.is) rfl) ez_q5 ez_q7) ?_
   rintro zz ww2 ⟨rfl, hB⟩
   exact ⟨_, rfl, hK _ _ ⟨(hJ.only [Cf bk1 #[.bool q3.b, .slice q3.a q3.n q3.c] 45, q3.is, Mt ma (fun _ => ma) Ra s1, Mt ma (fun _ => ma) Rb s2] (by simp)).later hB, hJb.trans (hB.mono hJb.size)⟩ rfl (vzL_later hVS7 hB)⟩
  ·
   exact .inr ⟨rfl, fun K' hK => wp_asgn (.tmp 64) rfl (eval_tmp ((hin 8 64 rfl).trans (congrArg some (show uu 8 = .int .i64 ((cmpI (M.dt ma (M.mulm ma Ra Rb)) ((M.dt ma Ra) * (M.dt ma Rb)))) from hd 8 (by decide) (by kernel_rfl))))) (hK _ _ ⟨hJ, hJb⟩ rfl vzL_same)⟩
 clear hM
 intro uu W7 hZ16p hd
 obtain ⟨hZ16, hb7⟩ := hZ16p
 have e_0 : uu 0 = s1.v := hd 0 (by decide)
 have e_1 : uu 1 = s2.v := hd 1 (by decide)
 obtain ⟨s4, e_2, hi_s4⟩ := (show (vmt ma (fun _ => ma) (M.mulm ma Ra Rb)) (uu 2) (fun k => X12 k ∧ k ≠ bk1) W7 from hd 2 (by decide))
 obtain ⟨q5, e_3, ez_q5, hi_q5⟩ := (show (vnum (M.dt ma (M.mulm ma Ra Rb))) (uu 3) (fun k => X12 k ∧ k ≠ bk1) W7 from hd 3 (by decide))
 have e_4 : uu 4 = q3.v := hd 4 (by decide)
 have e_5 : uu 5 = s2.v := hd 5 (by decide)
 obtain ⟨q6, e_6, ez_q6, hi_q6⟩ := (show (vnum (M.dt ma Rb)) (uu 6) (fun k => X12 k ∧ k ≠ bk1) W7 from hd 6 (by decide))
 obtain ⟨q7, e_7, ez_q7, hi_q7⟩ := (show (vnum ((M.dt ma Ra) * (M.dt ma Rb))) (uu 7) (fun k => X12 k ∧ k ≠ bk1) W7 from hd 7 (by decide))
 have e_8 : uu 8 = .int .i64 ((cmpI (M.dt ma (M.mulm ma Ra Rb)) ((M.dt ma Ra) * (M.dt ma Rb)))) := hd 8 (by decide)
 have e_9 : uu 9 = .int .i64 ((cmpI (M.dt ma (M.mulm ma Ra Rb)) ((M.dt ma Ra) * (M.dt ma Rb)))) := hd 9 (by decide)
 clear hd hVS7
 simp only [layS, Act.put, zzC, zzD, zzE, Nat.zero_add, Nat.reduceAdd, List.drop_succ_cons, List.drop_zero, List.drop_nil, e_0, e_1, e_2, e_3, e_4, e_5, e_6, e_7, e_8, e_9]
 clear e_0 e_1 e_2 e_3 e_4 e_5 e_6 e_7 e_8 e_9
 have hZ17 := hZ16.more (f := Mt ma (fun _ => ma) (M.mulm ma Ra Rb) s4) (Mt.stb _ _ _ _) hi_s4
 clear hZ16
 clear hi_s4
 have hZ18 := hZ17.more (f := q5.is) q5.stb hi_q5
 clear hZ17
 clear hi_q5
 have hZ19 := hZ18.more (f := q6.is) q6.stb hi_q6
 clear hZ18
 clear hi_q6
 have hZ20 := hZ19.more (f := q7.is) q7.stb hi_q7
 clear hZ19
 clear hi_q7
 have hZ21 := hZ20.only [Cf bk1 #[.bool q3.b, .slice q3.a q3.n q3.c] 45, q3.is, Mt ma (fun _ => ma) Ra s1, Mt ma (fun _ => ma) Rb s2] (by simp)
 clear hZ20
 go_wp2
 have hM : Zs w W7.drew X0 (fun k => X12 k ∧ k ≠ bk1) [] [Cf bk1 #[.bool q3.b, .slice q3.a q3.n q3.c] 45, q3.is, Mt ma (fun _ => ma) Ra s1, Mt ma (fun _ => ma) Rb s2] ∧ Below W7.heap.size W7 W7.drew := ⟨hZ21.later (Below.refl _ _).drew, (Below.refl _ _).drew⟩
 clear hZ21
 have hVS8 : ∀ k, k ∈ ([veq (s1.v), vmt ma (fun _ => ma) (fun i j => Ra j i), vnum (M.dt ma (fun i j => Ra j i)), veq (q3.v), veq (.int .i64 ((cmpI (M.dt ma (fun i j => Ra j i)) (M.dt ma Ra)))), veq (.int .i64 ((cmpI (M.dt ma (fun i j => Ra j i)) (M.dt ma Ra))))] : List VF) → VSt k := by
  intro k hk
  simp only [List.mem_cons, List.not_mem_nil, or_false] at hk
  rcases hk with rfl | rfl | rfl | rfl | rfl | rfl
  ·
   exact veq_st _
  ·
   exact vmt_st _ _ _
  ·
   exact vnum_st _
  ·
   exact veq_st _
  ·
   exact veq_st _
  ·
   exact veq_st _
 refine wp_region_q 6 [some 65, some 66, some 67, some 68, some 69, some 20] (vzL [veq (s1.v), vmt ma (fun _ => ma) (fun i j => Ra j i), vnum (M.dt ma (fun i j => Ra j i)), veq (q3.v), veq (.int .i64 ((cmpI (M.dt ma (fun i j => Ra j i)) (M.dt ma Ra)))), veq (.int .i64 ((cmpI (M.dt ma (fun i j => Ra j i)) (M.dt ma Ra))))] (fun k => X12 k ∧ k ≠ bk1)) (fun W => Zs w W X0 (fun k => X12 k ∧ k ≠ bk1) [] [Cf bk1 #[.bool q3.b, .slice q3.a q3.n q3.c] 45, q3.is, Mt ma (fun _ => ma) Ra s1, Mt ma (fun _ => ma) Rb s2] ∧ Below W7.heap.size W7 W) (by kernel_rfl) (by kernel_rfl) (by rfl) (by decide) (by rfl) hM ?_ ?_
 ·
  intro i hl hi LL uu ww aa hLi hLc hJ hd hev hin hold
  clear hM
  obtain ⟨hJ, hJb⟩ := hJ
  obtain rfl | rfl | rfl | rfl | rfl | rfl : i = 0 ∨ i = 1 ∨ i = 2 ∨ i = 3 ∨ i = 4 ∨ i = 5 := by omega
  ·
   exact .inr ⟨rfl, fun K' hK => wp_move (.tmp 12) rfl (eval_tmp ((hev 12 (by decide)).trans rfl)) (hK _ _ ⟨hJ, hJb⟩ rfl vzL_same)⟩
  ·
   refine .inr ⟨rfl, fun K' hK => ?_⟩
   refine wp_callz (.func 31) #[.tmp 65] #[25] 31 #[] #[s1.v] _ rfl rfl (map1 (eval_tmp ((hin 0 65 rfl).trans (congrArg some (show uu 0 = s1.v from hd 0 (by decide) (by kernel_rfl)))))) rfl (fun _ _ => rfl) (lTurned hJ.nx s1 (by omega) (hJ.get 2 (f := Mt ma (fun _ => ma) Ra s1) rfl)) ?_
   rintro zz ww2 ⟨s8, rfl, hi_s8, hB⟩
   exact ⟨_, rfl, hK _ _ ⟨hJ.later hB, hJb.trans (hB.mono hJb.size)⟩ ⟨s8, rfl, hi_s8⟩ (vzL_later hVS8 hB)⟩
  ·
   obtain ⟨s8, e1, hi_s8⟩ := (show (vmt ma (fun _ => ma) (fun i j => Ra j i)) (uu 1) (fun k => X12 k ∧ k ≠ bk1) ww from hd 1 (by decide) (by kernel_rfl))
   replace hJ := hJ.more (f := Mt ma (fun _ => ma) (fun i j => Ra j i) s8) (Mt.stb _ _ _ _) hi_s8
   refine .inr ⟨rfl, fun K' hK => ?_⟩
   refine wp_callz (.func 17) #[.tmp 66] #[25] 17 #[] #[s8.v] _ rfl rfl (map1 (eval_tmp ((hin 1 66 rfl).trans (congrArg some e1)))) rfl (fun _ _ => rfl) (lDet hJ.nx s8 (e := 2) (by omega) (by omega) (by omega) (hJ.get 0 (f := Mt ma (fun _ => ma) (fun i j => Ra j i) s8) rfl) (fun (i j : Nat) (hi : i < ma) (hj : j < ma) => (fun (i k : Nat) (hi : i < ma) (hk : k < ma) => sz_int (rga.out i k (by have := EAB.out; omega) (by rw [ha.2 i (by have := EAB.out; omega)]; have := EAB.out; omega)).1 (rga.out i k (by have := EAB.out; omega) (by rw [ha.2 i (by have := EAB.out; omega)]; have := EAB.out; omega)).2) j i hj hi)) ?_
   rintro zz ww2 ⟨q9, rfl, ez_q9, hi_q9, hB⟩
   exact ⟨_, rfl, hK _ _ ⟨(hJ.only [Cf bk1 #[.bool q3.b, .slice q3.a q3.n q3.c] 45, q3.is, Mt ma (fun _ => ma) Ra s1, Mt ma (fun _ => ma) Rb s2] (by simp)).later hB, hJb.trans (hB.mono hJb.size)⟩ ⟨q9, rfl, ez_q9, hi_q9⟩ (vzL_later hVS8 hB)⟩
  ·
   exact .inr ⟨rfl, fun K' hK => wp_load 45 (.tmp 18) rfl bk1 0 2 #[.bool q3.b, .slice q3.a q3.n q3.c] #[.bool q3.b, .slice q3.a q3.n q3.c] 45 (hJ.get 0 (f := Cf bk1 #[.bool q3.b, .slice q3.a q3.n q3.c] 45) rfl).1 (eval_tmp ((hev 18 (by decide)).trans rfl)) ag45 sz45 (zzF (by kernel_rfl)) (by kernel_rfl) (hK _ _ ⟨hJ, hJb⟩ rfl vzL_same)⟩
  ·
   obtain ⟨q9, e2, ez_q9, hi_q9⟩ := (show (vnum (M.dt ma (fun i j => Ra j i))) (uu 2) (fun k => X12 k ∧ k ≠ bk1) ww from hd 2 (by decide) (by kernel_rfl))
   replace hJ := hJ.more (f := q9.is) q9.stb hi_q9
   refine .inr ⟨rfl, fun K' hK => ?_⟩
   refine wp_callz (.func 28) #[.tmp 67, .tmp 68] #[45, 45] 28 #[] #[q9.v, q3.v] _ rfl rfl (map2 (eval_tmp ((hin 2 67 rfl).trans (congrArg some e2))) (eval_tmp ((hin 3 68 rfl).trans (congrArg some (show uu 3 = q3.v from hd 3 (by decide) (by kernel_rfl)))))) rfl (fun _ _ => rfl) (zCmp (hJ.get 0 (f := q9.is) rfl) (hJ.get 2 (f := q3.is) rfl) ez_q9 ez_q3) ?_
   rintro zz ww2 ⟨rfl, hB⟩
   exact ⟨_, rfl, hK _ _ ⟨(hJ.only [Cf bk1 #[.bool q3.b, .slice q3.a q3.n q3.c] 45, q3.is, Mt ma (fun _ => ma) Ra s1, Mt ma (fun _ => ma) Rb s2] (by simp)).later hB, hJb.trans (hB.mono hJb.size)⟩ rfl (vzL_later hVS8 hB)⟩
  ·
   exact .inr ⟨rfl, fun K' hK => wp_asgn (.tmp 69) rfl (eval_tmp ((hin 4 69 rfl).trans (congrArg some (show uu 4 = .int .i64 ((cmpI (M.dt ma (fun i j => Ra j i)) (M.dt ma Ra))) from hd 4 (by decide) (by kernel_rfl))))) (hK _ _ ⟨hJ, hJb⟩ rfl vzL_same)⟩
 clear hM
 intro uu W8 hZ22p hd
 obtain ⟨hZ22, hb8⟩ := hZ22p
 have e_0 : uu 0 = s1.v := hd 0 (by decide)
 obtain ⟨s8, e_1, hi_s8⟩ := (show (vmt ma (fun _ => ma) (fun i j => Ra j i)) (uu 1) (fun k => X12 k ∧ k ≠ bk1) W8 from hd 1 (by decide))
 obtain ⟨q9, e_2, ez_q9, hi_q9⟩ := (show (vnum (M.dt ma (fun i j => Ra j i))) (uu 2) (fun k => X12 k ∧ k ≠ bk1) W8 from hd 2 (by decide))
 have e_3 : uu 3 = q3.v := hd 3 (by decide)
 have e_4 : uu 4 = .int .i64 ((cmpI (M.dt ma (fun i j => Ra j i)) (M.dt ma Ra))) := hd 4 (by decide)
 have e_5 : uu 5 = .int .i64 ((cmpI (M.dt ma (fun i j => Ra j i)) (M.dt ma Ra))) := hd 5 (by decide)
 clear hd hVS8
 simp only [layS, Act.put, zzC, zzD, zzE, Nat.zero_add, Nat.reduceAdd, List.drop_succ_cons, List.drop_zero, List.drop_nil, e_0, e_1, e_2, e_3, e_4, e_5]
 clear e_0 e_1 e_2 e_3 e_4 e_5
 have hZ23 := hZ22.more (f := Mt ma (fun _ => ma) (fun i j => Ra j i) s8) (Mt.stb _ _ _ _) hi_s8
 clear hZ22
 clear hi_s8
 have hZ24 := hZ23.more (f := q9.is) q9.stb hi_q9
 clear hZ23
 clear hi_q9
 have hZ25 := hZ24.only [Cf bk1 #[.bool q3.b, .slice q3.a q3.n q3.c] 45, q3.is, Mt ma (fun _ => ma) Ra s1, Mt ma (fun _ => ma) Rb s2] (by simp)
 clear hZ24
 go_wp2_with (refine stop_op rfl (fun K hK => wp_lssi (.tmp 70) (.const (.int .i64 0)) rfl rfl rfl (r := false) (decide_eq_false (by have := t0.out; omega)) (hK _ _ ?_)))
 unfold Stop
 try simp only [Act.put, zzC, zzD, zzE]
 go_wp2_with (refine stop_opw (by kernel_rfl) (fun K hK => wp_lssi (.tmp 73) (.const (.int .i64 0)) rfl rfl rfl (r := true) (decide_eq_true (by have := t1.out; omega)) (hK _ _ ?_)))
 unfold Stop
 try simp only [Act.put, zzC, zzD, zzE]
 go_wp2_with (refine stop_opw (by kernel_rfl) (fun K hK => wp_eqli (.tmp 95) (.const (.int .i64 0)) 3 3 rfl rfl rfl rfl (r := true) (ceq_t (M.dt_mul ma Ra Rb)) (hK _ _ ?_)))
 unfold Stop
 try simp only [Act.put, zzC, zzD, zzE]
 go_wp2_with (refine stop_opw (by kernel_rfl) (fun K hK => wp_eqli (.tmp 99) (.const (.int .i64 0)) 3 3 rfl rfl rfl rfl (r := true) (ceq_t (M.dt_tr ma Ra)) (hK _ _ ?_)))
 unfold Stop
 try simp only [Act.put, zzC, zzD, zzE]
 go_wp2
 go_ret
 exact ⟨rfl, hZ25.below⟩
end Go.Proofs.YtolpfibihialkaaDoor
