/- Parts of the proof. -/
import Derived.Test.YtolpfibihialkaaDoorGd0
import Derived.Test.YtolpfibihialkaaDoorGd33
/- The law LinRules of layer 7, walked: its main way. No statement of the seat is proved here. -/
namespace Go.Proofs.YtolpfibihialkaaDoor
open Go Go.RowKit
theorem mrw_ne {A : Nat → Nat → Int} {p q j t : Nat} {c : Int} (h : t ≠ j) : mrw A p q c j t = mrw A p q c (j + 1) t := by
 unfold mrw
 by_cases e : t < j
 ·
  rw [if_pos e, if_pos (by omega)]
 ·
  rw [if_neg e, if_neg (by omega)]
open Classical in
set_option maxRecDepth 100000 in
set_option maxHeartbeats 25600000 in
theorem lru9 {X0 : Nat → Prop} {w : World} (hX : NX X0 w) (ra rb : Sl) (ma mb : Nat) (ca cb : Nat → Nat) (Ra Rb : Nat → Nat → Int) (p q : Nat) (tm : Int) (hra : Mi ma ca Ra ra X0 w) (hrb : Mi mb cb Rb rb X0 w) (rga0 : ∀ i j, i < ma → j < ca i → -9223372036854775808 ≤ Ra i j ∧ Ra i j ≤ 9223372036854775807) (rgb0 : ∀ i j, i < mb → j < cb i → -9223372036854775808 ≤ Rb i j ∧ Rb i j ≤ 9223372036854775807) (btm : -9223372036854775808 ≤ tm ∧ tm ≤ 9223372036854775807) (ha : (ma ≤ 7 ∧ ∀ k, k < ma → ca k = ma)) (hb : (mb ≤ 7 ∧ ∀ k, k < mb → cb k = mb)) (eab : ma = mb) (hp : p < ma) (hq : q < ma) (hpq : p ≠ q) : Calls Tryd.prog 6 #[ra.v, rb.v, .int .i64 ((p : Nat) : Int), .int .i64 ((q : Nat) : Int), .int .i64 tm] w (PVal (.bool true) w) := by
 have rga := Lib.hid rga0
 clear rga0
 have rgb := Lib.hid rgb0
 clear rgb0
 have EAB := Lib.hid eab
 clear eab
 have ha8 : ma ≤ 7 := ha.1
 have hdb : dtb 2 ma ≤ 3000 := dtb_le (by omega) (by omega)
 have hdb2 : dtb (2 + 2 + ma) ma ≤ 3000 := dtb_le (by omega) (by omega)
 have hdb3 : dtb 8 ma ≤ 3000 := dtb_le (by omega) (by omega)
 have hZ0 := zs_start hX
 have hZ1 := hZ0.more (f := Mi mb cb Rb rb) (Mi.stb _ _ _ _) hrb
 clear hZ0
 have hZ2 := hZ1.more (f := Mi ma ca Ra ra) (Mi.stb _ _ _ _) hra
 clear hZ1
 go_enter Tryd.func6, Tryd.ntmps6
 go_wp2_with fail
 refine (gAwake hZ2.nx).mono ?_
 rintro zz W1 ⟨rfl, hB⟩
 have hZ3 := hZ2.later hB
 clear hB
 clear hZ2
 go_wp2_with fail
 refine (gReadY hZ3.nx ra 7 (hZ3.get 0 (f := Mi ma ca Ra ra) rfl) (by omega) ha.1 ha.2 rga.out).mono ?_
 rintro zz W2 ⟨s1, s1r, rfl, hi_s1, hB⟩
 have hZ4 := hZ3.later hB
 clear hB
 clear hZ3
 have hZ5 := hZ4.more (f := Mt ma (fun _ => ma) Ra s1) (Mt.stb _ _ _ _) hi_s1
 clear hZ4
 clear hi_s1
 go_wp2_with fail
 refine (gReadY hZ5.nx rb 7 (hZ5.get 2 (f := Mi mb cb Rb rb) rfl) (by omega) hb.1 hb.2 rgb.out).mono ?_
 rintro zz W3 ⟨s2, s2r, rfl, hi_s2, hB⟩
 have hZ6 := hZ5.later hB
 clear hB
 clear hZ5
 have hZ7 := hZ6.more (f := Mt mb (fun _ => mb) Rb s2) (Mt.stb _ _ _ _) hi_s2
 clear hZ6
 clear hi_s2
 go_wp2_with (refine stop_opw (by kernel_rfl) (fun K hK => wp_lenq (.tmp 47) 25 39 s1 rfl (by kernel_rfl) rfl (hZ7.get 1 (f := Mt ma (fun _ => ma) Ra s1) rfl).n (hK _ _ ?_)))
 unfold Stop
 try simp only [Act.put, zzC, zzD, zzE]
 go_wp2_with (refine stop_opw (by kernel_rfl) (fun K hK => wp_lenq (.tmp 49) 25 39 s2 rfl (by kernel_rfl) rfl (hZ7.get 0 (f := Mt mb (fun _ => mb) Rb s2) rfl).n (hK _ _ ?_)))
 unfold Stop
 try simp only [Act.put, zzC, zzD, zzE]
 go_wp2_with (refine stop_opw (by kernel_rfl) (fun K hK => wp_neqi (.tmp 48) (.tmp 50) 3 3 rfl rfl rfl rfl (r := false) (decide_eq_false (by have := EAB.out; omega)) (hK _ _ ?_)))
 unfold Stop
 try simp only [Act.put, zzC, zzD, zzE]
 have hZ8 := hZ7.only [Mt ma (fun _ => ma) Ra s1, Mt mb (fun _ => mb) Rb s2] (by simp)
 clear hZ7
 have hZ9 : Zs w W3 X0 X0 [] [Mt ma (fun _ => ma) Ra s1, Mt ma (fun _ => ma) Rb s2] := by
  have h := hZ8
  rw [← EAB.out] at h
  exact h
 clear hZ8
 go_wp2_with fail
 refine (lDet hZ9.nx s1 (e := 2) (by omega) (by omega) (by omega) (hZ9.get 0 (f := Mt ma (fun _ => ma) Ra s1) rfl) (fun (i k : Nat) (hi : i < ma) (hk : k < ma) => sz_int (rga.out i k (by have := EAB.out; omega) (by rw [ha.2 i (by have := EAB.out; omega)]; have := EAB.out; omega)).1 (rga.out i k (by have := EAB.out; omega) (by rw [ha.2 i (by have := EAB.out; omega)]; have := EAB.out; omega)).2)).mono ?_
 rintro zz W4 ⟨q3, rfl, ez_q3, hi_q3, hB⟩
 have hZ10 := hZ9.later hB
 clear hB
 clear hZ9
 have hZ11 := hZ10.more (f := q3.is) q3.stb hi_q3
 clear hZ10
 clear hi_q3
 go_wp2_with (refine stopz_alloc 45 #[.bool false, .slice none 0 0] (.agg #[.bool false, .slice none 0 0]) rfl rfl zv45 rfl hZ11 (fun bk1 X12 W5 hZ12 => ?_))
 clear hZ11
 unfold Stop
 try simp only [Act.put, zzC, zzD, zzE]
 go_wp2_with (refine stopz_store 45 (.tmp 18) (.tmp 55) 0 bk1 0 #[.bool false, .slice none 0 0] 45 2 [.bool q3.b, .slice q3.a q3.n q3.c] #[.bool q3.b, .slice q3.a q3.n q3.c] [(bk1, #[.bool q3.b, .slice q3.a q3.n q3.c], 45)] rfl rfl rfl rfl sz45 hZ12 rfl rfl (zzF (by kernel_rfl)) (by kernel_rfl) (by kernel_rfl) (by kernel_rfl) (fun W6 hZ13 => ?_))
 clear hZ12
 unfold Stop
 try simp only [Act.put, zzC, zzD, zzE]
 have hZ14 := hZ13.release hX
 clear hZ13
 have hZ15 := hZ14.only [Cf bk1 #[.bool q3.b, .slice q3.a q3.n q3.c] 45, q3.is, Mt ma (fun _ => ma) Ra s1, Mt ma (fun _ => ma) Rb s2] (by simp)
 clear hZ14
 go_wp2
 have hM : Zs w W6.drew X0 (fun k => X12 k ∧ k ≠ bk1) [] [Cf bk1 #[.bool q3.b, .slice q3.a q3.n q3.c] 45, q3.is, Mt ma (fun _ => ma) Ra s1, Mt ma (fun _ => ma) Rb s2] ∧ Below W6.heap.size W6 W6.drew := ⟨hZ15.later (Below.refl _ _).drew, (Below.refl _ _).drew⟩
 clear hZ15
 have hVS7 : ∀ k, k ∈ ([veq (s1.v), veq (s2.v), vmt ma (fun _ => ma) (M.mulm ma Ra Rb), vnum (M.dt ma (M.mulm ma Ra Rb)), veq (q3.v), veq (s2.v), vnum (M.dt ma Rb), vnum ((M.dt ma Ra) * (M.dt ma Rb)), veq (.int .i64 ((cmpI (M.dt ma (M.mulm ma Ra Rb)) ((M.dt ma Ra) * (M.dt ma Rb))))), veq (.int .i64 ((cmpI (M.dt ma (M.mulm ma Ra Rb)) ((M.dt ma Ra) * (M.dt ma Rb)))))] : List VF) → VSt k := by
  intro k hk
  simp only [List.mem_cons, List.not_mem_nil, or_false] at hk
  rcases hk with rfl | rfl | rfl | rfl | rfl | rfl | rfl | rfl | rfl | rfl
  ·
   exact veq_st _
  ·
   exact veq_st _
  ·
   exact vmt_st _ _ _
  ·
   exact vnum_st _
  ·
   exact veq_st _
  ·
   exact veq_st _
  ·
   exact vnum_st _
  ·
   exact vnum_st _
  ·
   exact veq_st _
  ·
   exact veq_st _
 refine wp_region_q 10 [some 56, some 57, some 58, some 59, some 60, some 61, some 62, some 63, some 64, some 19] (vzL [veq (s1.v), veq (s2.v), vmt ma (fun _ => ma) (M.mulm ma Ra Rb), vnum (M.dt ma (M.mulm ma Ra Rb)), veq (q3.v), veq (s2.v), vnum (M.dt ma Rb), vnum ((M.dt ma Ra) * (M.dt ma Rb)), veq (.int .i64 ((cmpI (M.dt ma (M.mulm ma Ra Rb)) ((M.dt ma Ra) * (M.dt ma Rb))))), veq (.int .i64 ((cmpI (M.dt ma (M.mulm ma Ra Rb)) ((M.dt ma Ra) * (M.dt ma Rb)))))] (fun k => X12 k ∧ k ≠ bk1)) (fun W => Zs w W X0 (fun k => X12 k ∧ k ≠ bk1) [] [Cf bk1 #[.bool q3.b, .slice q3.a q3.n q3.c] 45, q3.is, Mt ma (fun _ => ma) Ra s1, Mt ma (fun _ => ma) Rb s2] ∧ Below W6.heap.size W6 W) (by kernel_rfl) (by kernel_rfl) (by rfl) (by decide) (by rfl) hM ?_ ?_
 ·
  intro i hl hi LL uu ww aa hLi hLc hJ hd hev hin hold
  clear hM
  obtain ⟨hJ, hJb⟩ := hJ
  obtain rfl | rfl | rfl | rfl | rfl | rfl | rfl | rfl | rfl | rfl : i = 0 ∨ i = 1 ∨ i = 2 ∨ i = 3 ∨ i = 4 ∨ i = 5 ∨ i = 6 ∨ i = 7 ∨ i = 8 ∨ i = 9 := by omega
  ·
   exact .inr ⟨rfl, fun K' hK => wp_move (.tmp 12) rfl (eval_tmp ((hev 12 (by decide)).trans rfl)) (hK _ _ ⟨hJ, hJb⟩ rfl vzL_same)⟩
  ·
   exact .inr ⟨rfl, fun K' hK => wp_move (.tmp 15) rfl (eval_tmp ((hev 15 (by decide)).trans rfl)) (hK _ _ ⟨hJ, hJb⟩ rfl vzL_same)⟩
  ·
   refine .inr ⟨rfl, fun K' hK => ?_⟩
   refine wp_callz (.func 30) #[.tmp 56, .tmp 57] #[25, 25] 30 #[] #[s1.v, s2.v] _ rfl rfl (map2 (eval_tmp ((hin 0 56 rfl).trans (congrArg some (show uu 0 = s1.v from hd 0 (by decide) (by kernel_rfl))))) (eval_tmp ((hin 1 57 rfl).trans (congrArg some (show uu 1 = s2.v from hd 1 (by decide) (by kernel_rfl)))))) rfl (fun _ _ => rfl) (lMul hJ.nx s1 s2 (e := 2 + 2) (hJ.get 2 (f := Mt ma (fun _ => ma) Ra s1) rfl) (hJ.get 3 (f := Mt ma (fun _ => ma) Rb s2) rfl) (fun i k hi hk => ((fun (i k : Nat) (hi : i < ma) (hk : k < ma) => sz_int (rga.out i k (by have := EAB.out; omega) (by rw [ha.2 i (by have := EAB.out; omega)]; have := EAB.out; omega)).1 (rga.out i k (by have := EAB.out; omega) (by rw [ha.2 i (by have := EAB.out; omega)]; have := EAB.out; omega)).2) i k hi hk).mono (Nat.le_add_right _ _)) (fun i k hi hk => ((fun (i k : Nat) (hi : i < ma) (hk : k < ma) => sz_int (rgb.out i k (by have := EAB.out; omega) (by rw [hb.2 i (by have := EAB.out; omega)]; have := EAB.out; omega)).1 (rgb.out i k (by have := EAB.out; omega) (by rw [hb.2 i (by have := EAB.out; omega)]; have := EAB.out; omega)).2) i k hi hk).mono (Nat.le_add_left _ _)) (by omega) (by omega)) ?_
   rintro zz ww2 ⟨s4, rfl, hi_s4, hB⟩
   exact ⟨_, rfl, hK _ _ ⟨hJ.later hB, hJb.trans (hB.mono hJb.size)⟩ ⟨s4, rfl, hi_s4⟩ (vzL_later hVS7 hB)⟩
  ·
   obtain ⟨s4, e2, hi_s4⟩ := (show (vmt ma (fun _ => ma) (M.mulm ma Ra Rb)) (uu 2) (fun k => X12 k ∧ k ≠ bk1) ww from hd 2 (by decide) (by kernel_rfl))
   replace hJ := hJ.more (f := Mt ma (fun _ => ma) (M.mulm ma Ra Rb) s4) (Mt.stb _ _ _ _) hi_s4
   refine .inr ⟨rfl, fun K' hK => ?_⟩
   refine wp_callz (.func 17) #[.tmp 58] #[25] 17 #[] #[s4.v] _ rfl rfl (map1 (eval_tmp ((hin 2 58 rfl).trans (congrArg some e2)))) rfl (fun _ _ => rfl) (lDet hJ.nx s4 (e := (2 + 2 + ma)) (by omega) (by omega) (by omega) (hJ.get 0 (f := Mt ma (fun _ => ma) (M.mulm ma Ra Rb) s4) rfl) (fun (i k : Nat) (hi : i < ma) (hk : k < ma) => sm_sz (fun (t : Nat) (ht : t < ma) => Sz.mul ((fun (i k : Nat) (hi : i < ma) (hk : k < ma) => sz_int (rga.out i k (by have := EAB.out; omega) (by rw [ha.2 i (by have := EAB.out; omega)]; have := EAB.out; omega)).1 (rga.out i k (by have := EAB.out; omega) (by rw [ha.2 i (by have := EAB.out; omega)]; have := EAB.out; omega)).2) i t hi ht) ((fun (i k : Nat) (hi : i < ma) (hk : k < ma) => sz_int (rgb.out i k (by have := EAB.out; omega) (by rw [hb.2 i (by have := EAB.out; omega)]; have := EAB.out; omega)).1 (rgb.out i k (by have := EAB.out; omega) (by rw [hb.2 i (by have := EAB.out; omega)]; have := EAB.out; omega)).2) t k ht hk)))) ?_
   rintro zz ww2 ⟨q5, rfl, ez_q5, hi_q5, hB⟩
   exact ⟨_, rfl, hK _ _ ⟨(hJ.only [Cf bk1 #[.bool q3.b, .slice q3.a q3.n q3.c] 45, q3.is, Mt ma (fun _ => ma) Ra s1, Mt ma (fun _ => ma) Rb s2] (by simp)).later hB, hJb.trans (hB.mono hJb.size)⟩ ⟨q5, rfl, ez_q5, hi_q5⟩ (vzL_later hVS7 hB)⟩
  ·
   exact .inr ⟨rfl, fun K' hK => wp_load 45 (.tmp 18) rfl bk1 0 2 #[.bool q3.b, .slice q3.a q3.n q3.c] #[.bool q3.b, .slice q3.a q3.n q3.c] 45 (hJ.get 0 (f := Cf bk1 #[.bool q3.b, .slice q3.a q3.n q3.c] 45) rfl).1 (eval_tmp ((hev 18 (by decide)).trans rfl)) ag45 sz45 (zzF (by kernel_rfl)) (by kernel_rfl) (hK _ _ ⟨hJ, hJb⟩ rfl vzL_same)⟩
  ·
   exact .inr ⟨rfl, fun K' hK => wp_move (.tmp 15) rfl (eval_tmp ((hev 15 (by decide)).trans rfl)) (hK _ _ ⟨hJ, hJb⟩ rfl vzL_same)⟩
  ·
   refine .inr ⟨rfl, fun K' hK => ?_⟩
   refine wp_callz (.func 17) #[.tmp 61] #[25] 17 #[] #[s2.v] _ rfl rfl (map1 (eval_tmp ((hin 5 61 rfl).trans (congrArg some (show uu 5 = s2.v from hd 5 (by decide) (by kernel_rfl)))))) rfl (fun _ _ => rfl) (lDet hJ.nx s2 (e := 2) (by omega) (by omega) (by omega) (hJ.get 3 (f := Mt ma (fun _ => ma) Rb s2) rfl) (fun (i k : Nat) (hi : i < ma) (hk : k < ma) => sz_int (rgb.out i k (by have := EAB.out; omega) (by rw [hb.2 i (by have := EAB.out; omega)]; have := EAB.out; omega)).1 (rgb.out i k (by have := EAB.out; omega) (by rw [hb.2 i (by have := EAB.out; omega)]; have := EAB.out; omega)).2)) ?_
   rintro zz ww2 ⟨q6, rfl, ez_q6, hi_q6, hB⟩
   exact ⟨_, rfl, hK _ _ ⟨hJ.later hB, hJb.trans (hB.mono hJb.size)⟩ ⟨q6, rfl, ez_q6, hi_q6⟩ (vzL_later hVS7 hB)⟩
  ·
   obtain ⟨q6, e6, ez_q6, hi_q6⟩ := (show (vnum (M.dt ma Rb)) (uu 6) (fun k => X12 k ∧ k ≠ bk1) ww from hd 6 (by decide) (by kernel_rfl))
   replace hJ := hJ.more (f := q6.is) q6.stb hi_q6
   refine .inr ⟨rfl, fun K' hK => ?_⟩
   refine wp_callz (.func 29) #[.tmp 60, .tmp 62] #[45, 45] 29 #[] #[q3.v, q6.v] _ rfl rfl (map2 (eval_tmp ((hin 4 60 rfl).trans (congrArg some (show uu 4 = q3.v from hd 4 (by decide) (by kernel_rfl))))) (eval_tmp ((hin 6 62 rfl).trans (congrArg some e6)))) rfl (fun _ _ => rfl) (zMul hJ.nx (hJ.get 2 (f := q3.is) rfl) (hJ.get 0 (f := q6.is) rfl) ez_q3 ez_q6 (dt_sz (fun (i k : Nat) (hi : i < ma) (hk : k < ma) => sz_int (rga.out i k (by have := EAB.out; omega) (by rw [ha.2 i (by have := EAB.out; omega)]; have := EAB.out; omega)).1 (rga.out i k (by have := EAB.out; omega) (by rw [ha.2 i (by have := EAB.out; omega)]; have := EAB.out; omega)).2)) (dt_sz (fun (i k : Nat) (hi : i < ma) (hk : k < ma) => sz_int (rgb.out i k (by have := EAB.out; omega) (by rw [hb.2 i (by have := EAB.out; omega)]; have := EAB.out; omega)).1 (rgb.out i k (by have := EAB.out; omega) (by rw [hb.2 i (by have := EAB.out; omega)]; have := EAB.out; omega)).2)) (by omega) (by omega)) ?_
   rintro zz ww2 ⟨q7, rfl, ez_q7, hi_q7, hB⟩
   exact ⟨_, rfl, hK _ _ ⟨(hJ.only [Cf bk1 #[.bool q3.b, .slice q3.a q3.n q3.c] 45, q3.is, Mt ma (fun _ => ma) Ra s1, Mt ma (fun _ => ma) Rb s2] (by simp)).later hB, hJb.trans (hB.mono hJb.size)⟩ ⟨q7, rfl, ez_q7, hi_q7⟩ (vzL_later hVS7 hB)⟩
  ·
   obtain ⟨q5, e3, ez_q5, hi_q5⟩ := (show (vnum (M.dt ma (M.mulm ma Ra Rb))) (uu 3) (fun k => X12 k ∧ k ≠ bk1) ww from hd 3 (by decide) (by kernel_rfl))
   obtain ⟨q7, e7, ez_q7, hi_q7⟩ := (show (vnum ((M.dt ma Ra) * (M.dt ma Rb))) (uu 7) (fun k => X12 k ∧ k ≠ bk1) ww from hd 7 (by decide) (by kernel_rfl))
   replace hJ := hJ.more (f := q5.is) q5.stb hi_q5
   replace hJ := hJ.more (f := q7.is) q7.stb hi_q7
   refine .inr ⟨rfl, fun K' hK => ?_⟩
   refine wp_callz (.func 28) #[.tmp 59, .tmp 63] #[45, 45] 28 #[] #[q5.v, q7.v] _ rfl rfl (map2 (eval_tmp ((hin 3 59 rfl).trans (congrArg some e3))) (eval_tmp ((hin 7 63 rfl).trans (congrArg some e7)))) rfl (fun _ _ => rfl) (zCmp (hJ.get 1 (f := q5.is) rfl) (hJ.get 0 (f := q7.is) rfl) ez_q5 ez_q7) ?_
   rintro zz ww2 ⟨rfl, hB⟩
   exact ⟨_, rfl, hK _ _ ⟨(hJ.only [Cf bk1 #[.bool q3.b, .slice q3.a q3.n q3.c] 45, q3.is, Mt ma (fun _ => ma) Ra s1, Mt ma (fun _ => ma) Rb s2] (by simp)).later hB, hJb.trans (hB.mono hJb.size)⟩ rfl (vzL_later hVS7 hB)⟩
  ·
   exact .inr ⟨rfl, fun K' hK => wp_asgn (.tmp 64) rfl (eval_tmp ((hin 8 64 rfl).trans (congrArg some (show uu 8 = .int .i64 ((cmpI (M.dt ma (M.mulm ma Ra Rb)) ((M.dt ma Ra) * (M.dt ma Rb)))) from hd 8 (by decide) (by kernel_rfl))))) (hK _ _ ⟨hJ, hJb⟩ rfl vzL_same)⟩
 clear hM
 intro uu W7 hZ16p hd
 obtain ⟨hZ16, hb7⟩ := hZ16p
 have e_0 : uu 0 = s1.v := hd 0 (by decide)
 have e_1 : uu 1 = s2.v := hd 1 (by decide)
 obtain ⟨s4, e_2, hi_s4⟩ := (show (vmt ma (fun _ => ma) (M.mulm ma Ra Rb)) (uu 2) (fun k => X12 k ∧ k ≠ bk1) W7 from hd 2 (by decide))
 obtain ⟨q5, e_3, ez_q5, hi_q5⟩ := (show (vnum (M.dt ma (M.mulm ma Ra Rb))) (uu 3) (fun k => X12 k ∧ k ≠ bk1) W7 from hd 3 (by decide))
 have e_4 : uu 4 = q3.v := hd 4 (by decide)
 have e_5 : uu 5 = s2.v := hd 5 (by decide)
 obtain ⟨q6, e_6, ez_q6, hi_q6⟩ := (show (vnum (M.dt ma Rb)) (uu 6) (fun k => X12 k ∧ k ≠ bk1) W7 from hd 6 (by decide))
 obtain ⟨q7, e_7, ez_q7, hi_q7⟩ := (show (vnum ((M.dt ma Ra) * (M.dt ma Rb))) (uu 7) (fun k => X12 k ∧ k ≠ bk1) W7 from hd 7 (by decide))
 have e_8 : uu 8 = .int .i64 ((cmpI (M.dt ma (M.mulm ma Ra Rb)) ((M.dt ma Ra) * (M.dt ma Rb)))) := hd 8 (by decide)
 have e_9 : uu 9 = .int .i64 ((cmpI (M.dt ma (M.mulm ma Ra Rb)) ((M.dt ma Ra) * (M.dt ma Rb)))) := hd 9 (by decide)
 clear hd hVS7
 simp only [layS, Act.put, zzC, zzD, zzE, Nat.zero_add, Nat.reduceAdd, List.drop_succ_cons, List.drop_zero, List.drop_nil, e_0, e_1, e_2, e_3, e_4, e_5, e_6, e_7, e_8, e_9]
 clear e_0 e_1 e_2 e_3 e_4 e_5 e_6 e_7 e_8 e_9
 have hZ17 := hZ16.more (f := Mt ma (fun _ => ma) (M.mulm ma Ra Rb) s4) (Mt.stb _ _ _ _) hi_s4
 clear hZ16
 clear hi_s4
 have hZ18 := hZ17.more (f := q5.is) q5.stb hi_q5
 clear hZ17
 clear hi_q5
 have hZ19 := hZ18.more (f := q6.is) q6.stb hi_q6
 clear hZ18
 clear hi_q6
 have hZ20 := hZ19.more (f := q7.is) q7.stb hi_q7
 clear hZ19
 clear hi_q7
 have hZ21 := hZ20.only [Cf bk1 #[.bool q3.b, .slice q3.a q3.n q3.c] 45, q3.is, Mt ma (fun _ => ma) Ra s1, Mt ma (fun _ => ma) Rb s2] (by simp)
 clear hZ20
 go_wp2
 have hM : Zs w W7.drew X0 (fun k => X12 k ∧ k ≠ bk1) [] [Cf bk1 #[.bool q3.b, .slice q3.a q3.n q3.c] 45, q3.is, Mt ma (fun _ => ma) Ra s1, Mt ma (fun _ => ma) Rb s2] ∧ Below W7.heap.size W7 W7.drew := ⟨hZ21.later (Below.refl _ _).drew, (Below.refl _ _).drew⟩
 clear hZ21
 have hVS8 : ∀ k, k ∈ ([veq (s1.v), vmt ma (fun _ => ma) (fun i j => Ra j i), vnum (M.dt ma (fun i j => Ra j i)), veq (q3.v), veq (.int .i64 ((cmpI (M.dt ma (fun i j => Ra j i)) (M.dt ma Ra)))), veq (.int .i64 ((cmpI (M.dt ma (fun i j => Ra j i)) (M.dt ma Ra))))] : List VF) → VSt k := by
  intro k hk
  simp only [List.mem_cons, List.not_mem_nil, or_false] at hk
  rcases hk with rfl | rfl | rfl | rfl | rfl | rfl
  ·
   exact veq_st _
  ·
   exact vmt_st _ _ _
  ·
   exact vnum_st _
  ·
   exact veq_st _
  ·
   exact veq_st _
  ·
   exact veq_st _
 refine wp_region_q 6 [some 65, some 66, some 67, some 68, some 69, some 20] (vzL [veq (s1.v), vmt ma (fun _ => ma) (fun i j => Ra j i), vnum (M.dt ma (fun i j => Ra j i)), veq (q3.v), veq (.int .i64 ((cmpI (M.dt ma (fun i j => Ra j i)) (M.dt ma Ra)))), veq (.int .i64 ((cmpI (M.dt ma (fun i j => Ra j i)) (M.dt ma Ra))))] (fun k => X12 k ∧ k ≠ bk1)) (fun W => Zs w W X0 (fun k => X12 k ∧ k ≠ bk1) [] [Cf bk1 #[.bool q3.b, .slice q3.a q3.n q3.c] 45, q3.is, Mt ma (fun _ => ma) Ra s1, Mt ma (fun _ => ma) Rb s2] ∧ Below W7.heap.size W7 W) (by kernel_rfl) (by kernel_rfl) (by rfl) (by decide) (by rfl) hM ?_ ?_
 ·
  intro i hl hi LL uu ww aa hLi hLc hJ hd hev hin hold
  clear hM
  obtain ⟨hJ, hJb⟩ := hJ
  obtain rfl | rfl | rfl | rfl | rfl | rfl : i = 0 ∨ i = 1 ∨ i = 2 ∨ i = 3 ∨ i = 4 ∨ i = 5 := by omega
  ·
   exact .inr ⟨rfl, fun K' hK => wp_move (.tmp 12) rfl (eval_tmp ((hev 12 (by decide)).trans rfl)) (hK _ _ ⟨hJ, hJb⟩ rfl vzL_same)⟩
  ·
   refine .inr ⟨rfl, fun K' hK => ?_⟩
   refine wp_callz (.func 31) #[.tmp 65] #[25] 31 #[] #[s1.v] _ rfl rfl (map1 (eval_tmp ((hin 0 65 rfl).trans (congrArg some (show uu 0 = s1.v from hd 0 (by decide) (by kernel_rfl)))))) rfl (fun _ _ => rfl) (lTurned hJ.nx s1 (by omega) (hJ.get 2 (f := Mt ma (fun _ => ma) Ra s1) rfl)) ?_
   rintro zz ww2 ⟨s8, rfl, hi_s8, hB⟩
   exact ⟨_, rfl, hK _ _ ⟨hJ.later hB, hJb.trans (hB.mono hJb.size)⟩ ⟨s8, rfl, hi_s8⟩ (vzL_later hVS8 hB)⟩
  ·
   obtain ⟨s8, e1, hi_s8⟩ := (show (vmt ma (fun _ => ma) (fun i j => Ra j i)) (uu 1) (fun k => X12 k ∧ k ≠ bk1) ww from hd 1 (by decide) (by kernel_rfl))
   replace hJ := hJ.more (f := Mt ma (fun _ => ma) (fun i j => Ra j i) s8) (Mt.stb _ _ _ _) hi_s8
   refine .inr ⟨rfl, fun K' hK => ?_⟩
   refine wp_callz (.func 17) #[.tmp 66] #[25] 17 #[] #[s8.v] _ rfl rfl (map1 (eval_tmp ((hin 1 66 rfl).trans (congrArg some e1)))) rfl (fun _ _ => rfl) (lDet hJ.nx s8 (e := 2) (by omega) (by omega) (by omega) (hJ.get 0 (f := Mt ma (fun _ => ma) (fun i j => Ra j i) s8) rfl) (fun (i j : Nat) (hi : i < ma) (hj : j < ma) => (fun (i k : Nat) (hi : i < ma) (hk : k < ma) => sz_int (rga.out i k (by have := EAB.out; omega) (by rw [ha.2 i (by have := EAB.out; omega)]; have := EAB.out; omega)).1 (rga.out i k (by have := EAB.out; omega) (by rw [ha.2 i (by have := EAB.out; omega)]; have := EAB.out; omega)).2) j i hj hi)) ?_
   rintro zz ww2 ⟨q9, rfl, ez_q9, hi_q9, hB⟩
   exact ⟨_, rfl, hK _ _ ⟨(hJ.only [Cf bk1 #[.bool q3.b, .slice q3.a q3.n q3.c] 45, q3.is, Mt ma (fun _ => ma) Ra s1, Mt ma (fun _ => ma) Rb s2] (by simp)).later hB, hJb.trans (hB.mono hJb.size)⟩ ⟨q9, rfl, ez_q9, hi_q9⟩ (vzL_later hVS8 hB)⟩
  ·
   exact .inr ⟨rfl, fun K' hK => wp_load 45 (.tmp 18) rfl bk1 0 2 #[.bool q3.b, .slice q3.a q3.n q3.c] #[.bool q3.b, .slice q3.a q3.n q3.c] 45 (hJ.get 0 (f := Cf bk1 #[.bool q3.b, .slice q3.a q3.n q3.c] 45) rfl).1 (eval_tmp ((hev 18 (by decide)).trans rfl)) ag45 sz45 (zzF (by kernel_rfl)) (by kernel_rfl) (hK _ _ ⟨hJ, hJb⟩ rfl vzL_same)⟩
  ·
   obtain ⟨q9, e2, ez_q9, hi_q9⟩ := (show (vnum (M.dt ma (fun i j => Ra j i))) (uu 2) (fun k => X12 k ∧ k ≠ bk1) ww from hd 2 (by decide) (by kernel_rfl))
   replace hJ := hJ.more (f := q9.is) q9.stb hi_q9
   refine .inr ⟨rfl, fun K' hK => ?_⟩
   refine wp_callz (.func 28) #[.tmp 67, .tmp 68] #[45, 45] 28 #[] #[q9.v, q3.v] _ rfl rfl (map2 (eval_tmp ((hin 2 67 rfl).trans (congrArg some e2))) (eval_tmp ((hin 3 68 rfl).trans (congrArg some (show uu 3 = q3.v from hd 3 (by decide) (by kernel_rfl)))))) rfl (fun _ _ => rfl) (zCmp (hJ.get 0 (f := q9.is) rfl) (hJ.get 2 (f := q3.is) rfl) ez_q9 ez_q3) ?_
   rintro zz ww2 ⟨rfl, hB⟩
   exact ⟨_, rfl, hK _ _ ⟨(hJ.only [Cf bk1 #[.bool q3.b, .slice q3.a q3.n q3.c] 45, q3.is, Mt ma (fun _ => ma) Ra s1, Mt ma (fun _ => ma) Rb s2] (by simp)).later hB, hJb.trans (hB.mono hJb.size)⟩ rfl (vzL_later hVS8 hB)⟩
  ·
   exact .inr ⟨rfl, fun K' hK => wp_asgn (.tmp 69) rfl (eval_tmp ((hin 4 69 rfl).trans (congrArg some (show uu 4 = .int .i64 ((cmpI (M.dt ma (fun i j => Ra j i)) (M.dt ma Ra))) from hd 4 (by decide) (by kernel_rfl))))) (hK _ _ ⟨hJ, hJb⟩ rfl vzL_same)⟩
 clear hM
 intro uu W8 hZ22p hd
 obtain ⟨hZ22, hb8⟩ := hZ22p
 have e_0 : uu 0 = s1.v := hd 0 (by decide)
 obtain ⟨s8, e_1, hi_s8⟩ := (show (vmt ma (fun _ => ma) (fun i j => Ra j i)) (uu 1) (fun k => X12 k ∧ k ≠ bk1) W8 from hd 1 (by decide))
 obtain ⟨q9, e_2, ez_q9, hi_q9⟩ := (show (vnum (M.dt ma (fun i j => Ra j i))) (uu 2) (fun k => X12 k ∧ k ≠ bk1) W8 from hd 2 (by decide))
 have e_3 : uu 3 = q3.v := hd 3 (by decide)
 have e_4 : uu 4 = .int .i64 ((cmpI (M.dt ma (fun i j => Ra j i)) (M.dt ma Ra))) := hd 4 (by decide)
 have e_5 : uu 5 = .int .i64 ((cmpI (M.dt ma (fun i j => Ra j i)) (M.dt ma Ra))) := hd 5 (by decide)
 clear hd hVS8
 simp only [layS, Act.put, zzC, zzD, zzE, Nat.zero_add, Nat.reduceAdd, List.drop_succ_cons, List.drop_zero, List.drop_nil, e_0, e_1, e_2, e_3, e_4, e_5]
 clear e_0 e_1 e_2 e_3 e_4 e_5
 have hZ23 := hZ22.more (f := Mt ma (fun _ => ma) (fun i j => Ra j i) s8) (Mt.stb _ _ _ _) hi_s8
 clear hZ22
 clear hi_s8
 have hZ24 := hZ23.more (f := q9.is) q9.stb hi_q9
 clear hZ23
 clear hi_q9
 have hZ25 := hZ24.only [Cf bk1 #[.bool q3.b, .slice q3.a q3.n q3.c] 45, q3.is, Mt ma (fun _ => ma) Ra s1, Mt ma (fun _ => ma) Rb s2] (by simp)
 clear hZ24
 go_wp2_with (refine stop_op rfl (fun K hK => wp_lssi (.tmp 70) (.const (.int .i64 0)) rfl rfl rfl (r := false) (decide_eq_false (by omega)) (hK _ _ ?_)))
 unfold Stop
 try simp only [Act.put, zzC, zzD, zzE]
 go_wp2_with (refine stop_opw (by kernel_rfl) (fun K hK => wp_lssi (.tmp 73) (.const (.int .i64 0)) rfl rfl rfl (r := false) (decide_eq_false (by omega)) (hK _ _ ?_)))
 unfold Stop
 try simp only [Act.put, zzC, zzD, zzE]
 go_wp2_with (refine stop_opw (by kernel_rfl) (fun K hK => wp_lenq (.tmp 78) 25 39 s1 rfl (by kernel_rfl) rfl (hZ25.get 2 (f := Mt ma (fun _ => ma) Ra s1) rfl).n (hK _ _ ?_)))
 unfold Stop
 try simp only [Act.put, zzC, zzD, zzE]
 go_wp2_with (refine stop_opw (by kernel_rfl) (fun K hK => wp_geqi (.tmp 77) (.tmp 79) rfl rfl rfl (r := false) (decide_eq_false (by omega)) (hK _ _ ?_)))
 unfold Stop
 try simp only [Act.put, zzC, zzD, zzE]
 go_wp2_with (refine stop_opw (by kernel_rfl) (fun K hK => wp_lenq (.tmp 84) 25 39 s1 rfl (by kernel_rfl) rfl (hZ25.get 2 (f := Mt ma (fun _ => ma) Ra s1) rfl).n (hK _ _ ?_)))
 unfold Stop
 try simp only [Act.put, zzC, zzD, zzE]
 go_wp2_with (refine stop_opw (by kernel_rfl) (fun K hK => wp_geqi (.tmp 83) (.tmp 85) rfl rfl rfl (r := false) (decide_eq_false (by omega)) (hK _ _ ?_)))
 unfold Stop
 try simp only [Act.put, zzC, zzD, zzE]
 go_wp2_with (refine stop_opw (by kernel_rfl) (fun K hK => wp_eqli (.tmp 89) (.tmp 90) 3 3 rfl rfl rfl rfl (r := false) (decide_eq_false (by omega)) (hK _ _ ?_)))
 unfold Stop
 try simp only [Act.put, zzC, zzD, zzE]
 have hZ26 := hZ25.only [Cf bk1 #[.bool q3.b, .slice q3.a q3.n q3.c] 45, q3.is, Mt ma (fun _ => ma) Ra s1] (by simp)
 clear hZ25
 go_wp2
 go_loopw [21, 22, 23] (fun mv cv jv wr => ∃ (j : Nat) (so sc ro : Sl) (Co Cc Cr : Array Value) (X : Nat → Prop), j ≤ ma ∧ jv = .int .i64 ((j : Nat) : Int) ∧ mv = so.v ∧ cv = sc.v ∧ so.n = j ∧ sc.n = j ∧ Wr 1 so Co ∧ Wr 1 sc Cc ∧ ((j ≤ p ∧ Zs w wr X0 X ([] ++ (owl so Co 39 ++ owl sc Cc 39)) [Fl 1 (ERo p slz (fun _ => ma) Ra) j Co, Fl 1 (ER (fun _ => ma) Ra) j Cc, Cf bk1 #[.bool q3.b, .slice q3.a q3.n q3.c] 45, q3.is, Mt ma (fun _ => ma) Ra s1]) ∨ (p < j ∧ ro.n = ma ∧ Wr 2 ro Cr ∧ Zs w wr X0 X ([] ++ (owl ro Cr 45 ++ (owl so Co 39 ++ owl sc Cc 39))) [Fl 2 (EN (Ra p)) ma Cr, Fl 1 (ERo p ro (fun _ => ma) Ra) j Co, Fl 1 (ER (fun _ => ma) Ra) j Cc, Cf bk1 #[.bool q3.b, .slice q3.a q3.n q3.c] 45, q3.is, Mt ma (fun _ => ma) Ra s1]))) (fun _ _ iv _ => ma - (intOf iv).toNat)
 case atStart => exact ⟨0, slz, slz, slz, #[], #[], #[], _, by omega, rfl, rfl, rfl, rfl, rfl, wr_slz 1, wr_slz 1, .inl ⟨Nat.zero_le _, (hZ26.more (f := Fl 1 (ER (fun _ => ma) Ra) 0 #[]) (Fl.stb (ER.stb _ _) _ _) (fl_zero 1 (ER (fun _ => ma) Ra) #[] _ _)).more (f := Fl 1 (ERo p slz (fun _ => ma) Ra) 0 #[]) (Fl.stb (ERo.stb _ _ _ _) _ _) (fl_zero 1 (ERo p slz (fun _ => ma) Ra) #[] _ _)⟩⟩
 case round =>
  clear hZ26
  obtain ⟨j, so, sc, ro, Co, Cc, Cr, X, hj, rfl, rfl, rfl, hn_so, hn_sc, hw_so, hw_sc, hph⟩ := hrel
  by_cases hlj : j < ma
  ·
   rcases hph with ⟨hjp, hZ⟩ | ⟨hjp, hn_ro, hw_ro, hZ⟩
   ·
    by_cases e : j = p
    ·
     have HP := Lib.hid e
     clear e
     go_wp2_with (refine stop_op rfl (fun K hK => wp_lenq (.tmp 103) 25 39 s1 rfl (by kernel_rfl) rfl (hZ.get 4 (f := Mt ma (fun _ => ma) Ra s1) rfl).n (hK _ _ ?_)))
     unfold Stop
     try simp only [Act.put, zzC, zzD, zzE]
     go_wp2_with (refine stop_op rfl (fun K hK => wp_lssi (.tmp 102) (.tmp 104) rfl rfl rfl (r := true) (decide_eq_true (by omega)) (hK _ _ ?_)))
     unfold Stop
     try simp only [Act.put, zzC, zzD, zzE]
     go_wp2_with (refine stop_op rfl (fun K hK => wp_bs0 ei39 rfl hZ (fun b010 W9 hZ27 => hK _ _ ?_)))
     unfold Stop
     try simp only [Act.put, zzC, zzD, zzE]
     clear hZ
     go_wp2_with (refine stop_op rfl (fun K hK => wp_ixs 25 (.tmp 110) (.tmp 111) s1 j 1 39 rfl rfl rfl (by kernel_rfl) sz39 (fun h => ((hZ27.get 4 (f := Mt ma (fun _ => ma) Ra s1) rfl).sq.nil h).1) ((hZ27.get 4 (f := Mt ma (fun _ => ma) Ra s1) rfl).n ▸ (by omega)) (hK _ _ ?_)))
     unfold Stop
     try simp only [Act.put, zzC, zzD, zzE]
     go_wp2_with (refine stop_op rfl (fun K hK => wp_ldm 39 (.tmp 112) s1 j ma (fun _ => ma) Ra rfl rfl (hZ27.get 4 (f := Mt ma (fun _ => ma) Ra s1) rfl) (by omega) ag39 (fun s11 hi_s11 => hK _ _ ?_)))
     unfold Stop
     try simp only [Act.put, zzC, zzD, zzE]
     have hZ28 := hZ27.more (f := Ls ma (Ra j) s11) (Ls.stb _ _ _) hi_s11
     clear hZ27
     clear hi_s11
     go_wp2_with (refine stop_op rfl (fun K hK => wp_spread ei39 (.tmp 109) (.tmp 113) rfl b010 rfl (s := s11) rfl (hZ28.get 0 (f := Ls ma (Ra j) s11) rfl) (by omega) (by omega) hZ28 (fun o12 C12 X29 W10 hn_o12 hw_o12 hZ29 => hK _ _ ?_)))
     unfold Stop
     try simp only [Act.put, zzC, zzD, zzE]
     have hZ30 := hZ29.perm (perm_mid _ _ _)
     clear hZ29
     clear hZ28
     go_wp2_with (refine stop_op rfl (fun K hK => wp_bs1 ei25 (.tmp 114) rfl rfl rfl (hK _ _ ?_)))
     unfold Stop
     try simp only [Act.put, zzC, zzD, zzE]
     have hZ31 := hZ30.later (below_new _ (.cells #[o12.v] 39))
     clear hZ30
     have hZ32y := hZ31.perm ((List.Perm.append_left _ (perm_mid _ _ _)).trans (perm_mid _ _ _))
     go_wp2_with (refine stop_op rfl (fun K hK => wp_app ei25 (.tmp 108) (.tmp 115) rfl (s := so) rfl ⟨W10.heap.size, 0, none⟩ 1 rfl hw_so (by rw [hn_so]; omega) hZ32y [o12.v] rfl (cell_one _ o12.v _) (fun u hu => by simp only [List.mem_cons, List.not_mem_nil, or_false] at hu; subst hu; rfl) (fun o13 C13 X32 W11 hn_o13 hw_o13 ho_C13 hg_C13 hZ32x => hK _ _ ?_)))
     unfold Stop
     try simp only [Act.put, zzC, zzD, zzE]
     clear hZ32y
     rw [hn_so] at hn_o13 ho_C13 hg_C13
     have hZ32 := hZ32x.perm (List.Perm.symm ((List.Perm.append_left _ (perm_mid _ _ _)).trans (perm_mid _ _ _)))
     clear hZ32x
     clear hZ31
     have hZ33s : Fl 1 (ERo p o12 (fun _ => ma) Ra) (j + 1) C13 X32 W11 := Fl.snoc (C := Co) (show Fl 1 (ERo p o12 (fun _ => ma) Ra) j Co X32 W11 by have h := (hZ32.get 2 (f := Fl 1 (ERo p slz (fun _ => ma) Ra) j Co) rfl); rw [HP.out] at h ⊢; exact ero_slz h) (cs := [o12.v]) rfl ho_C13 hg_C13 (ero_self HP.out)
     have hZ33 := (hZ32.more (Fl.stb (ERo.stb _ _ _ _) _ _) hZ33s).only [Fl 2 (EN (Ra j)) ma C12, Fl 1 (ERo p o12 (fun _ => ma) Ra) (j + 1) C13, Fl 1 (ER (fun _ => ma) Ra) j Cc, Cf bk1 #[.bool q3.b, .slice q3.a q3.n q3.c] 45, q3.is, Mt ma (fun _ => ma) Ra s1] (by simp)
     clear hZ32 hZ33s
     go_wp2_with (refine stop_op rfl (fun K hK => wp_ixs 25 (.tmp 118) (.tmp 119) s1 j 1 39 rfl rfl rfl (by kernel_rfl) sz39 (fun h => ((hZ33.get 5 (f := Mt ma (fun _ => ma) Ra s1) rfl).sq.nil h).1) ((hZ33.get 5 (f := Mt ma (fun _ => ma) Ra s1) rfl).n ▸ (by omega)) (hK _ _ ?_)))
     unfold Stop
     try simp only [Act.put, zzC, zzD, zzE]
     go_wp2_with (refine stop_op rfl (fun K hK => wp_ldm 39 (.tmp 120) s1 j ma (fun _ => ma) Ra rfl rfl (hZ33.get 5 (f := Mt ma (fun _ => ma) Ra s1) rfl) (by omega) ag39 (fun s14 hi_s14 => hK _ _ ?_)))
     unfold Stop
     try simp only [Act.put, zzC, zzD, zzE]
     have hZ34 := hZ33.more (f := Ls ma (Ra j) s14) (Ls.stb _ _ _) hi_s14
     clear hZ33
     clear hi_s14
     go_wp2_with (refine stop_op rfl (fun K hK => wp_bs1 ei25 (.tmp 121) rfl rfl rfl (hK _ _ ?_)))
     unfold Stop
     try simp only [Act.put, zzC, zzD, zzE]
     have hZ35 := hZ34.later (below_new _ (.cells #[s14.v] 39))
     clear hZ34
     have hZ36y := hZ35.perm ((List.Perm.append_left _ ((List.Perm.append_left _ List.perm_append_comm).trans (perm_mid _ _ _))).trans (perm_mid _ _ _))
     go_wp2_with (refine stop_op rfl (fun K hK => wp_app ei25 (.tmp 117) (.tmp 122) rfl (s := sc) rfl ⟨W11.heap.size, 0, none⟩ 1 rfl hw_sc (by rw [hn_sc]; omega) hZ36y [s14.v] rfl (cell_one _ s14.v _) (fun u hu => by simp only [List.mem_cons, List.not_mem_nil, or_false] at hu; subst hu; rfl) (fun o15 C15 X36 W12 hn_o15 hw_o15 ho_C15 hg_C15 hZ36x => hK _ _ ?_)))
     unfold Stop
     try simp only [Act.put, zzC, zzD, zzE]
     clear hZ36y
     rw [hn_sc] at hn_o15 ho_C15 hg_C15
     have hZ36 := hZ36x.perm (List.Perm.symm ((List.Perm.append_left _ ((List.Perm.append_left _ List.perm_append_comm).trans (perm_mid _ _ _))).trans (perm_mid _ _ _)))
     clear hZ36x
     clear hZ35
     have hZ37s : Fl 1 (ER (fun _ => ma) Ra) (j + 1) C15 X36 W12 := Fl.snoc (C := Cc) (hZ36.get 3 (f := Fl 1 (ER (fun _ => ma) Ra) j Cc) rfl) (cs := [s14.v]) rfl ho_C15 hg_C15 ⟨s14, hZ36.get 0 (f := Ls ma (Ra j) s14) rfl, rfl⟩
     have hZ37 := (hZ36.more (Fl.stb (ER.stb _ _) _ _) hZ37s).only [Fl 2 (EN (Ra j)) ma C12, Fl 1 (ERo p o12 (fun _ => ma) Ra) (j + 1) C13, Fl 1 (ER (fun _ => ma) Ra) (j + 1) C15, Cf bk1 #[.bool q3.b, .slice q3.a q3.n q3.c] 45, q3.is, Mt ma (fun _ => ma) Ra s1] (by simp)
     clear hZ36 hZ37s
     go_wp2_with (refine stop_op rfl (fun K hK => wp_addi (.tmp 106) (.const (.int .i64 1)) rfl rfl rfl (C := ((j + 1 : Nat) : Int)) (by omega) (by omega) (by omega) (hK _ _ ?_)))
     unfold Stop
     try simp only [Act.put, zzC, zzD, zzE]
     have hZ38 : Zs w W12 X0 X36 ([] ++ (owl o12 C12 45 ++ (owl o13 C13 39 ++ owl o15 C15 39))) [Fl 2 (EN (Ra p)) ma C12, Fl 1 (ERo p o12 (fun _ => ma) Ra) (j + 1) C13, Fl 1 (ER (fun _ => ma) Ra) (j + 1) C15, Cf bk1 #[.bool q3.b, .slice q3.a q3.n q3.c] 45, q3.is, Mt ma (fun _ => ma) Ra s1] := by
      have h := hZ37
      rw [show Fl 2 (EN (Ra j)) ma C12 = Fl 2 (EN (Ra p)) ma C12 from by rw [HP.out]] at h
      exact h
     go_wp2
     go_roundw
     case rel => exact ⟨j + 1, o13, o15, o12, C13, C15, C12, _, by omega, by go_num, rfl, rfl, hn_o13, hn_o15, hw_o13, hw_o15, .inr ⟨by have := HP.out; omega, hn_o12, hw_o12, hZ38⟩⟩
     case measure => simp [intOf]; omega
    ·
     go_wp2_with (refine stop_op rfl (fun K hK => wp_lenq (.tmp 103) 25 39 s1 rfl (by kernel_rfl) rfl (hZ.get 4 (f := Mt ma (fun _ => ma) Ra s1) rfl).n (hK _ _ ?_)))
     unfold Stop
     try simp only [Act.put, zzC, zzD, zzE]
     go_wp2_with (refine stop_op rfl (fun K hK => wp_lssi (.tmp 102) (.tmp 104) rfl rfl rfl (r := true) (decide_eq_true (by omega)) (hK _ _ ?_)))
     unfold Stop
     try simp only [Act.put, zzC, zzD, zzE]
     go_wp2_with (refine stop_op rfl (fun K hK => wp_bs0 ei39 rfl hZ (fun b016 W13 hZ39 => hK _ _ ?_)))
     unfold Stop
     try simp only [Act.put, zzC, zzD, zzE]
     clear hZ
     go_wp2_with (refine stop_op rfl (fun K hK => wp_ixs 25 (.tmp 110) (.tmp 111) s1 j 1 39 rfl rfl rfl (by kernel_rfl) sz39 (fun h => ((hZ39.get 4 (f := Mt ma (fun _ => ma) Ra s1) rfl).sq.nil h).1) ((hZ39.get 4 (f := Mt ma (fun _ => ma) Ra s1) rfl).n ▸ (by omega)) (hK _ _ ?_)))
     unfold Stop
     try simp only [Act.put, zzC, zzD, zzE]
     go_wp2_with (refine stop_op rfl (fun K hK => wp_ldm 39 (.tmp 112) s1 j ma (fun _ => ma) Ra rfl rfl (hZ39.get 4 (f := Mt ma (fun _ => ma) Ra s1) rfl) (by omega) ag39 (fun s17 hi_s17 => hK _ _ ?_)))
     unfold Stop
     try simp only [Act.put, zzC, zzD, zzE]
     have hZ40 := hZ39.more (f := Ls ma (Ra j) s17) (Ls.stb _ _ _) hi_s17
     clear hZ39
     clear hi_s17
     go_wp2_with (refine stop_op rfl (fun K hK => wp_spread ei39 (.tmp 109) (.tmp 113) rfl b016 rfl (s := s17) rfl (hZ40.get 0 (f := Ls ma (Ra j) s17) rfl) (by omega) (by omega) hZ40 (fun o18 C18 X41 W14 hn_o18 hw_o18 hZ41 => hK _ _ ?_)))
     unfold Stop
     try simp only [Act.put, zzC, zzD, zzE]
     have hZ42 := hZ41.perm (perm_mid _ _ _)
     clear hZ41
     clear hZ40
     go_wp2_with (refine stop_op rfl (fun K hK => wp_bs1 ei25 (.tmp 114) rfl rfl rfl (hK _ _ ?_)))
     unfold Stop
     try simp only [Act.put, zzC, zzD, zzE]
     have hZ43 := hZ42.later (below_new _ (.cells #[o18.v] 39))
     clear hZ42
     have hZ44y := hZ43.perm ((List.Perm.append_left _ (perm_mid _ _ _)).trans (perm_mid _ _ _))
     go_wp2_with (refine stop_op rfl (fun K hK => wp_app ei25 (.tmp 108) (.tmp 115) rfl (s := so) rfl ⟨W14.heap.size, 0, none⟩ 1 rfl hw_so (by rw [hn_so]; omega) hZ44y [o18.v] rfl (cell_one _ o18.v _) (fun u hu => by simp only [List.mem_cons, List.not_mem_nil, or_false] at hu; subst hu; rfl) (fun o19 C19 X44 W15 hn_o19 hw_o19 ho_C19 hg_C19 hZ44x => hK _ _ ?_)))
     unfold Stop
     try simp only [Act.put, zzC, zzD, zzE]
     clear hZ44y
     rw [hn_so] at hn_o19 ho_C19 hg_C19
     have hZ44 := hZ44x.perm (List.Perm.symm ((List.Perm.append_left _ (perm_mid _ _ _)).trans (perm_mid _ _ _)))
     clear hZ44x
     clear hZ43
     have hZ45r := hZ44.get 0 (f := Fl 2 (EN (Ra j)) ma C18) rfl
     obtain ⟨X46, hZ46⟩ := Zs.tell (hZ44.perm (perm_mid _ _ _)) hX hw_o18 hn_o18 hZ45r
     clear hZ44
     clear hZ45r
     have hZ47s : Fl 1 (ERo p slz (fun _ => ma) Ra) (j + 1) C19 X46 W15 := Fl.snoc (C := Co) (hZ46.get 3 (f := Fl 1 (ERo p slz (fun _ => ma) Ra) j Co) rfl) (cs := [o18.v]) rfl ho_C19 hg_C19 (ero_row (by omega) (hZ46.get 0 (f := Ls ma (Ra j) o18) rfl))
     have hZ47 := (hZ46.more (Fl.stb (ERo.stb _ _ _ _) _ _) hZ47s).only [Fl 1 (ERo p slz (fun _ => ma) Ra) (j + 1) C19, Fl 1 (ER (fun _ => ma) Ra) j Cc, Cf bk1 #[.bool q3.b, .slice q3.a q3.n q3.c] 45, q3.is, Mt ma (fun _ => ma) Ra s1] (by simp)
     clear hZ46 hZ47s
     go_wp2_with (refine stop_op rfl (fun K hK => wp_ixs 25 (.tmp 118) (.tmp 119) s1 j 1 39 rfl rfl rfl (by kernel_rfl) sz39 (fun h => ((hZ47.get 4 (f := Mt ma (fun _ => ma) Ra s1) rfl).sq.nil h).1) ((hZ47.get 4 (f := Mt ma (fun _ => ma) Ra s1) rfl).n ▸ (by omega)) (hK _ _ ?_)))
     unfold Stop
     try simp only [Act.put, zzC, zzD, zzE]
     go_wp2_with (refine stop_op rfl (fun K hK => wp_ldm 39 (.tmp 120) s1 j ma (fun _ => ma) Ra rfl rfl (hZ47.get 4 (f := Mt ma (fun _ => ma) Ra s1) rfl) (by omega) ag39 (fun s20 hi_s20 => hK _ _ ?_)))
     unfold Stop
     try simp only [Act.put, zzC, zzD, zzE]
     have hZ48 := hZ47.more (f := Ls ma (Ra j) s20) (Ls.stb _ _ _) hi_s20
     clear hZ47
     clear hi_s20
     go_wp2_with (refine stop_op rfl (fun K hK => wp_bs1 ei25 (.tmp 121) rfl rfl rfl (hK _ _ ?_)))
     unfold Stop
     try simp only [Act.put, zzC, zzD, zzE]
     have hZ49 := hZ48.later (below_new _ (.cells #[s20.v] 39))
     clear hZ48
     have hZ50y := hZ49.perm ((List.Perm.append_left _ List.perm_append_comm).trans (perm_mid _ _ _))
     go_wp2_with (refine stop_op rfl (fun K hK => wp_app ei25 (.tmp 117) (.tmp 122) rfl (s := sc) rfl ⟨W15.heap.size, 0, none⟩ 1 rfl hw_sc (by rw [hn_sc]; omega) hZ50y [s20.v] rfl (cell_one _ s20.v _) (fun u hu => by simp only [List.mem_cons, List.not_mem_nil, or_false] at hu; subst hu; rfl) (fun o21 C21 X50 W16 hn_o21 hw_o21 ho_C21 hg_C21 hZ50x => hK _ _ ?_)))
     unfold Stop
     try simp only [Act.put, zzC, zzD, zzE]
     clear hZ50y
     rw [hn_sc] at hn_o21 ho_C21 hg_C21
     have hZ50 := hZ50x.perm (List.Perm.symm ((List.Perm.append_left _ List.perm_append_comm).trans (perm_mid _ _ _)))
     clear hZ50x
     clear hZ49
     have hZ51s : Fl 1 (ER (fun _ => ma) Ra) (j + 1) C21 X50 W16 := Fl.snoc (C := Cc) (hZ50.get 2 (f := Fl 1 (ER (fun _ => ma) Ra) j Cc) rfl) (cs := [s20.v]) rfl ho_C21 hg_C21 ⟨s20, hZ50.get 0 (f := Ls ma (Ra j) s20) rfl, rfl⟩
     have hZ51 := (hZ50.more (Fl.stb (ER.stb _ _) _ _) hZ51s).only [Fl 1 (ERo p slz (fun _ => ma) Ra) (j + 1) C19, Fl 1 (ER (fun _ => ma) Ra) (j + 1) C21, Cf bk1 #[.bool q3.b, .slice q3.a q3.n q3.c] 45, q3.is, Mt ma (fun _ => ma) Ra s1] (by simp)
     clear hZ50 hZ51s
     go_wp2_with (refine stop_op rfl (fun K hK => wp_addi (.tmp 106) (.const (.int .i64 1)) rfl rfl rfl (C := ((j + 1 : Nat) : Int)) (by omega) (by omega) (by omega) (hK _ _ ?_)))
     unfold Stop
     try simp only [Act.put, zzC, zzD, zzE]
     go_wp2
     go_roundw
     case rel => exact ⟨j + 1, o19, o21, slz, C19, C21, #[], _, by omega, by go_num, rfl, rfl, hn_o19, hn_o21, hw_o19, hw_o21, .inl ⟨by omega, hZ51⟩⟩
     case measure => simp [intOf]; omega
   ·
    go_wp2_with (refine stop_op rfl (fun K hK => wp_lenq (.tmp 103) 25 39 s1 rfl (by kernel_rfl) rfl (hZ.get 5 (f := Mt ma (fun _ => ma) Ra s1) rfl).n (hK _ _ ?_)))
    unfold Stop
    try simp only [Act.put, zzC, zzD, zzE]
    go_wp2_with (refine stop_op rfl (fun K hK => wp_lssi (.tmp 102) (.tmp 104) rfl rfl rfl (r := true) (decide_eq_true (by omega)) (hK _ _ ?_)))
    unfold Stop
    try simp only [Act.put, zzC, zzD, zzE]
    go_wp2_with (refine stop_op rfl (fun K hK => wp_bs0 ei39 rfl hZ (fun b022 W17 hZ52 => hK _ _ ?_)))
    unfold Stop
    try simp only [Act.put, zzC, zzD, zzE]
    clear hZ
    go_wp2_with (refine stop_op rfl (fun K hK => wp_ixs 25 (.tmp 110) (.tmp 111) s1 j 1 39 rfl rfl rfl (by kernel_rfl) sz39 (fun h => ((hZ52.get 5 (f := Mt ma (fun _ => ma) Ra s1) rfl).sq.nil h).1) ((hZ52.get 5 (f := Mt ma (fun _ => ma) Ra s1) rfl).n ▸ (by omega)) (hK _ _ ?_)))
    unfold Stop
    try simp only [Act.put, zzC, zzD, zzE]
    go_wp2_with (refine stop_op rfl (fun K hK => wp_ldm 39 (.tmp 112) s1 j ma (fun _ => ma) Ra rfl rfl (hZ52.get 5 (f := Mt ma (fun _ => ma) Ra s1) rfl) (by omega) ag39 (fun s23 hi_s23 => hK _ _ ?_)))
    unfold Stop
    try simp only [Act.put, zzC, zzD, zzE]
    have hZ53 := hZ52.more (f := Ls ma (Ra j) s23) (Ls.stb _ _ _) hi_s23
    clear hZ52
    clear hi_s23
    go_wp2_with (refine stop_op rfl (fun K hK => wp_spread ei39 (.tmp 109) (.tmp 113) rfl b022 rfl (s := s23) rfl (hZ53.get 0 (f := Ls ma (Ra j) s23) rfl) (by omega) (by omega) hZ53 (fun o24 C24 X54 W18 hn_o24 hw_o24 hZ54 => hK _ _ ?_)))
    unfold Stop
    try simp only [Act.put, zzC, zzD, zzE]
    have hZ55 := hZ54.perm (perm_mid _ _ _)
    clear hZ54
    clear hZ53
    go_wp2_with (refine stop_op rfl (fun K hK => wp_bs1 ei25 (.tmp 114) rfl rfl rfl (hK _ _ ?_)))
    unfold Stop
    try simp only [Act.put, zzC, zzD, zzE]
    have hZ56 := hZ55.later (below_new _ (.cells #[o24.v] 39))
    clear hZ55
    have hZ57y := hZ56.perm ((List.Perm.append_left _ ((List.Perm.append_left _ (perm_mid _ _ _)).trans (perm_mid _ _ _))).trans (perm_mid _ _ _))
    go_wp2_with (refine stop_op rfl (fun K hK => wp_app ei25 (.tmp 108) (.tmp 115) rfl (s := so) rfl ⟨W18.heap.size, 0, none⟩ 1 rfl hw_so (by rw [hn_so]; omega) hZ57y [o24.v] rfl (cell_one _ o24.v _) (fun u hu => by simp only [List.mem_cons, List.not_mem_nil, or_false] at hu; subst hu; rfl) (fun o25 C25 X57 W19 hn_o25 hw_o25 ho_C25 hg_C25 hZ57x => hK _ _ ?_)))
    unfold Stop
    try simp only [Act.put, zzC, zzD, zzE]
    clear hZ57y
    rw [hn_so] at hn_o25 ho_C25 hg_C25
    have hZ57 := hZ57x.perm (List.Perm.symm ((List.Perm.append_left _ ((List.Perm.append_left _ (perm_mid _ _ _)).trans (perm_mid _ _ _))).trans (perm_mid _ _ _)))
    clear hZ57x
    clear hZ56
    have hZ58r := hZ57.get 0 (f := Fl 2 (EN (Ra j)) ma C24) rfl
    obtain ⟨X59, hZ59⟩ := Zs.tell (hZ57.perm (perm_mid _ _ _)) hX hw_o24 hn_o24 hZ58r
    clear hZ57
    clear hZ58r
    have hZ60s : Fl 1 (ERo p ro (fun _ => ma) Ra) (j + 1) C25 X59 W19 := Fl.snoc (C := Co) (hZ59.get 4 (f := Fl 1 (ERo p ro (fun _ => ma) Ra) j Co) rfl) (cs := [o24.v]) rfl ho_C25 hg_C25 (ero_row (by omega) (hZ59.get 0 (f := Ls ma (Ra j) o24) rfl))
    have hZ60 := (hZ59.more (Fl.stb (ERo.stb _ _ _ _) _ _) hZ60s).only [Fl 2 (EN (Ra p)) ma Cr, Fl 1 (ERo p ro (fun _ => ma) Ra) (j + 1) C25, Fl 1 (ER (fun _ => ma) Ra) j Cc, Cf bk1 #[.bool q3.b, .slice q3.a q3.n q3.c] 45, q3.is, Mt ma (fun _ => ma) Ra s1] (by simp)
    clear hZ59 hZ60s
    go_wp2_with (refine stop_op rfl (fun K hK => wp_ixs 25 (.tmp 118) (.tmp 119) s1 j 1 39 rfl rfl rfl (by kernel_rfl) sz39 (fun h => ((hZ60.get 5 (f := Mt ma (fun _ => ma) Ra s1) rfl).sq.nil h).1) ((hZ60.get 5 (f := Mt ma (fun _ => ma) Ra s1) rfl).n ▸ (by omega)) (hK _ _ ?_)))
    unfold Stop
    try simp only [Act.put, zzC, zzD, zzE]
    go_wp2_with (refine stop_op rfl (fun K hK => wp_ldm 39 (.tmp 120) s1 j ma (fun _ => ma) Ra rfl rfl (hZ60.get 5 (f := Mt ma (fun _ => ma) Ra s1) rfl) (by omega) ag39 (fun s26 hi_s26 => hK _ _ ?_)))
    unfold Stop
    try simp only [Act.put, zzC, zzD, zzE]
    have hZ61 := hZ60.more (f := Ls ma (Ra j) s26) (Ls.stb _ _ _) hi_s26
    clear hZ60
    clear hi_s26
    go_wp2_with (refine stop_op rfl (fun K hK => wp_bs1 ei25 (.tmp 121) rfl rfl rfl (hK _ _ ?_)))
    unfold Stop
    try simp only [Act.put, zzC, zzD, zzE]
    have hZ62 := hZ61.later (below_new _ (.cells #[s26.v] 39))
    clear hZ61
    have hZ63y := hZ62.perm ((List.Perm.append_left _ ((List.Perm.append_left _ List.perm_append_comm).trans (perm_mid _ _ _))).trans (perm_mid _ _ _))
    go_wp2_with (refine stop_op rfl (fun K hK => wp_app ei25 (.tmp 117) (.tmp 122) rfl (s := sc) rfl ⟨W19.heap.size, 0, none⟩ 1 rfl hw_sc (by rw [hn_sc]; omega) hZ63y [s26.v] rfl (cell_one _ s26.v _) (fun u hu => by simp only [List.mem_cons, List.not_mem_nil, or_false] at hu; subst hu; rfl) (fun o27 C27 X63 W20 hn_o27 hw_o27 ho_C27 hg_C27 hZ63x => hK _ _ ?_)))
    unfold Stop
    try simp only [Act.put, zzC, zzD, zzE]
    clear hZ63y
    rw [hn_sc] at hn_o27 ho_C27 hg_C27
    have hZ63 := hZ63x.perm (List.Perm.symm ((List.Perm.append_left _ ((List.Perm.append_left _ List.perm_append_comm).trans (perm_mid _ _ _))).trans (perm_mid _ _ _)))
    clear hZ63x
    clear hZ62
    have hZ64s : Fl 1 (ER (fun _ => ma) Ra) (j + 1) C27 X63 W20 := Fl.snoc (C := Cc) (hZ63.get 3 (f := Fl 1 (ER (fun _ => ma) Ra) j Cc) rfl) (cs := [s26.v]) rfl ho_C27 hg_C27 ⟨s26, hZ63.get 0 (f := Ls ma (Ra j) s26) rfl, rfl⟩
    have hZ64 := (hZ63.more (Fl.stb (ER.stb _ _) _ _) hZ64s).only [Fl 2 (EN (Ra p)) ma Cr, Fl 1 (ERo p ro (fun _ => ma) Ra) (j + 1) C25, Fl 1 (ER (fun _ => ma) Ra) (j + 1) C27, Cf bk1 #[.bool q3.b, .slice q3.a q3.n q3.c] 45, q3.is, Mt ma (fun _ => ma) Ra s1] (by simp)
    clear hZ63 hZ64s
    go_wp2_with (refine stop_op rfl (fun K hK => wp_addi (.tmp 106) (.const (.int .i64 1)) rfl rfl rfl (C := ((j + 1 : Nat) : Int)) (by omega) (by omega) (by omega) (hK _ _ ?_)))
    unfold Stop
    try simp only [Act.put, zzC, zzD, zzE]
    go_wp2
    go_roundw
    case rel => exact ⟨j + 1, o25, o27, ro, C25, C27, Cr, _, by omega, by go_num, rfl, rfl, hn_o25, hn_o27, hw_o25, hw_o27, .inr ⟨by omega, hn_ro, hw_ro, hZ64⟩⟩
    case measure => simp [intOf]; omega
  ·
   obtain rfl : ma = j := by omega
   obtain ⟨hjp, hn_ro, hw_ro, hZ⟩ := hph.resolve_left (fun h => by have := h.1; omega)
   clear hph
   go_wp2_with (refine stop_op rfl (fun K hK => wp_lenq (.tmp 103) 25 39 s1 rfl (by kernel_rfl) rfl (hZ.get 5 (f := Mt ma (fun _ => ma) Ra s1) rfl).n (hK _ _ ?_)))
   unfold Stop
   try simp only [Act.put, zzC, zzD, zzE]
   go_wp2_with (refine stop_op rfl (fun K hK => wp_lssi (.tmp 102) (.tmp 104) rfl rfl rfl (r := false) (decide_eq_false (Int.lt_irrefl _)) (hK _ _ ?_)))
   unfold Stop
   try simp only [Act.put, zzC, zzD, zzE]
   have hat : Co[p * 1 + 0]? = some ro.v := ero_at (hZ.get 1 (f := Fl 1 (ERo p ro (fun _ => ma) Ra) ma Co) rfl) hp
   have hZ65s : Fl 2 (EN (mrw Ra p q tm 0)) ma Cr X wr := (hZ.get 0 (f := Fl 2 (EN (Ra p)) ma Cr) rfl).congr (fun t cs _ ⟨x, h1, h2, h3⟩ => ⟨x, h1.trans (by unfold mrw; rw [if_neg (Nat.not_lt_zero t)]), h2, h3⟩)
   have hZ65 := (hZ.more (Fl.stb (EN.stb _) _ _) hZ65s).only [Fl 2 (EN (mrw Ra p q tm 0)) ma Cr, Fl 1 (ERo p ro (fun _ => ma) Ra) ma Co, Fl 1 (ER (fun _ => ma) Ra) ma Cc, Cf bk1 #[.bool q3.b, .slice q3.a q3.n q3.c] 45, q3.is, Mt ma (fun _ => ma) Ra s1] (by simp)
   clear hZ hZ65s
   go_wp2
   obtain ⟨wo, rfl⟩ : ∃ wo : World, wo = wr := ⟨_, rfl⟩
   have HW := Lib.hid hw_ro
   clear hw_ro
   go_wp2
   go_loopw [24] (fun jv wr => ∃ (j : Nat) (Cn : Array Value) (X : Nat → Prop), j ≤ ma ∧ jv = .int .i64 ((j : Nat) : Int) ∧ Wr 2 ro Cn ∧ Zs w wr X0 X ([] ++ (owl ro Cn 45 ++ (owl so Co 39 ++ owl sc Cc 39))) [Fl 2 (EN (mrw Ra p q tm j)) ma Cn, Fl 1 (ERo p ro (fun _ => ma) Ra) ma Co, Fl 1 (ER (fun _ => ma) Ra) ma Cc, Cf bk1 #[.bool q3.b, .slice q3.a q3.n q3.c] 45, q3.is, Mt ma (fun _ => ma) Ra s1]) (fun iv _ => ma - (intOf iv).toNat)
   case atStart => exact ⟨0, Cr, _, by omega, rfl, HW.out, hZ65⟩
   case round =>
    clear hZ65
    obtain ⟨j, Cn, X, hj, rfl, hw_ro, hZn⟩ := hrel
    by_cases hlj : j < ma
    ·
     go_wp2_with (refine stop_op rfl (fun K hK => wp_lenq (.tmp 125) 25 39 s1 rfl (by kernel_rfl) rfl (hZn.get 5 (f := Mt ma (fun _ => ma) Ra s1) rfl).n (hK _ _ ?_)))
     unfold Stop
     try simp only [Act.put, zzC, zzD, zzE]
     go_wp2_with (refine stop_op rfl (fun K hK => wp_lssi (.tmp 124) (.tmp 126) rfl rfl rfl (r := true) (decide_eq_true (by omega)) (hK _ _ ?_)))
     unfold Stop
     try simp only [Act.put, zzC, zzD, zzE]
     go_wp2
     have hM : Zs w wr.drew X0 X ([] ++ (owl ro Cn 45 ++ (owl so Co 39 ++ owl sc Cc 39))) [Fl 2 (EN (mrw Ra p q tm j)) ma Cn, Fl 1 (ERo p ro (fun _ => ma) Ra) ma Co, Fl 1 (ER (fun _ => ma) Ra) ma Cc, Cf bk1 #[.bool q3.b, .slice q3.a q3.n q3.c] 45, q3.is, Mt ma (fun _ => ma) Ra s1] ∧ Below wr.heap.size wr wr.drew := ⟨hZn.later (Below.refl _ _).drew, (Below.refl _ _).drew⟩
     clear hZn
     have hVS21 : ∀ k, k ∈ ([veq (so.v), veq (.int .i64 (((p : Nat) : Int))), veq ((so.at 1 p)), veq (ro.v), veq (.int .i64 (((j : Nat) : Int))), veq (s1.v), veq (.int .i64 (((p : Nat) : Int))), veq ((s1.at 1 p)), vls ma (Ra p), veq (.int .i64 (((j : Nat) : Int))), vat ma (Ra p) j, vnum (Ra p j), veq (s1.v), veq (.int .i64 (((q : Nat) : Int))), veq ((s1.at 1 q)), vls ma (Ra q), veq (.int .i64 (((j : Nat) : Int))), vat ma (Ra q) j, vnum (Ra q j), veq (.int .i64 tm), vnum (tm), vnum ((Ra q j) * tm), vnum ((Ra p j) + ((Ra q j) * tm)), veq ((ro.at 2 j))] : List VF) → VSt k := by
      intro k hk
      simp only [List.mem_cons, List.not_mem_nil, or_false] at hk
      rcases hk with rfl | rfl | rfl | rfl | rfl | rfl | rfl | rfl | rfl | rfl | rfl | rfl | rfl | rfl | rfl | rfl | rfl | rfl | rfl | rfl | rfl | rfl | rfl | rfl
      ·
       exact veq_st _
      ·
       exact veq_st _
      ·
       exact veq_st _
      ·
       exact veq_st _
      ·
       exact veq_st _
      ·
       exact veq_st _
      ·
       exact veq_st _
      ·
       exact veq_st _
      ·
       exact vls_st _ _
      ·
       exact veq_st _
      ·
       exact vat_st _ _ _
      ·
       exact vnum_st _
      ·
       exact veq_st _
      ·
       exact veq_st _
      ·
       exact veq_st _
      ·
       exact vls_st _ _
      ·
       exact veq_st _
      ·
       exact vat_st _ _ _
      ·
       exact vnum_st _
      ·
       exact veq_st _
      ·
       exact vnum_st _
      ·
       exact vnum_st _
      ·
       exact vnum_st _
      ·
       exact veq_st _
     refine wp_region_q 24 [some 130, some 131, some 132, some 133, some 134, some 135, some 136, some 137, some 138, some 139, some 140, some 141, some 142, some 143, some 144, some 145, some 146, some 147, some 148, some 149, some 150, some 151, some 152, some 153] (vzL [veq (so.v), veq (.int .i64 (((p : Nat) : Int))), veq ((so.at 1 p)), veq (ro.v), veq (.int .i64 (((j : Nat) : Int))), veq (s1.v), veq (.int .i64 (((p : Nat) : Int))), veq ((s1.at 1 p)), vls ma (Ra p), veq (.int .i64 (((j : Nat) : Int))), vat ma (Ra p) j, vnum (Ra p j), veq (s1.v), veq (.int .i64 (((q : Nat) : Int))), veq ((s1.at 1 q)), vls ma (Ra q), veq (.int .i64 (((j : Nat) : Int))), vat ma (Ra q) j, vnum (Ra q j), veq (.int .i64 tm), vnum (tm), vnum ((Ra q j) * tm), vnum ((Ra p j) + ((Ra q j) * tm)), veq ((ro.at 2 j))] X) (fun W => Zs w W X0 X ([] ++ (owl ro Cn 45 ++ (owl so Co 39 ++ owl sc Cc 39))) [Fl 2 (EN (mrw Ra p q tm j)) ma Cn, Fl 1 (ERo p ro (fun _ => ma) Ra) ma Co, Fl 1 (ER (fun _ => ma) Ra) ma Cc, Cf bk1 #[.bool q3.b, .slice q3.a q3.n q3.c] 45, q3.is, Mt ma (fun _ => ma) Ra s1] ∧ Below wr.heap.size wr W) (by kernel_rfl) (by kernel_rfl) (by rfl) (by decide) (by rfl) hM ?_ ?_
     ·
      intro i hl hi LL uu ww aa hLi hLc hJ hd hev hin hold
      clear hM
      obtain ⟨hJ, hJb⟩ := hJ
      obtain rfl | rfl | rfl | rfl | rfl | rfl | rfl | rfl | rfl | rfl | rfl | rfl | rfl | rfl | rfl | rfl | rfl | rfl | rfl | rfl | rfl | rfl | rfl | rfl : i = 0 ∨ i = 1 ∨ i = 2 ∨ i = 3 ∨ i = 4 ∨ i = 5 ∨ i = 6 ∨ i = 7 ∨ i = 8 ∨ i = 9 ∨ i = 10 ∨ i = 11 ∨ i = 12 ∨ i = 13 ∨ i = 14 ∨ i = 15 ∨ i = 16 ∨ i = 17 ∨ i = 18 ∨ i = 19 ∨ i = 20 ∨ i = 21 ∨ i = 22 ∨ i = 23 := by omega
      ·
       exact .inr ⟨rfl, fun K' hK => wp_move (.tmp 21) rfl (eval_tmp ((hev 21 (by decide)).trans rfl)) (hK _ _ ⟨hJ, hJb⟩ rfl vzL_same)⟩
      ·
       exact .inr ⟨rfl, fun K' hK => wp_move (.tmp 2) rfl (eval_tmp ((hev 2 (by decide)).trans rfl)) (hK _ _ ⟨hJ, hJb⟩ rfl vzL_same)⟩
      ·
       exact .inr ⟨rfl, fun K' hK => wp_ixs 25 (.tmp 130) (.tmp 131) so p 1 39 rfl (eval_tmp ((hin 0 130 rfl).trans (congrArg some (show uu 0 = so.v from hd 0 (by decide) (by kernel_rfl))))) (eval_tmp ((hin 1 131 rfl).trans (congrArg some (show uu 1 = .int .i64 (((p : Nat) : Int)) from hd 1 (by decide) (by kernel_rfl))))) (by kernel_rfl) sz39 hw_so.nil (by rw [hn_so]; omega) (hK _ _ ⟨hJ, hJb⟩ rfl vzL_same)⟩
      ·
       exact .inr ⟨rfl, fun K' hK => wp_ldown 39 39 (.tmp 132) so p Co rfl (eval_tmp ((hin 2 132 rfl).trans (congrArg some (show uu 2 = (so.at 1 p) from hd 2 (by decide) (by kernel_rfl))))) hw_so (hJ.perm ((List.Perm.append_left _ (perm_mid _ _ _)).trans (perm_mid _ _ _))) (by rw [hn_so]; omega) hat ag39 (hK _ _ ⟨hJ, hJb⟩ rfl vzL_same)⟩
      ·
       exact .inr ⟨rfl, fun K' hK => wp_move (.tmp 24) rfl (eval_tmp ((hev 24 (by decide)).trans rfl)) (hK _ _ ⟨hJ, hJb⟩ rfl vzL_same)⟩
      ·
       exact .inr ⟨rfl, fun K' hK => wp_move (.tmp 12) rfl (eval_tmp ((hev 12 (by decide)).trans rfl)) (hK _ _ ⟨hJ, hJb⟩ rfl vzL_same)⟩
      ·
       exact .inr ⟨rfl, fun K' hK => wp_move (.tmp 2) rfl (eval_tmp ((hev 2 (by decide)).trans rfl)) (hK _ _ ⟨hJ, hJb⟩ rfl vzL_same)⟩
      ·
       exact .inr ⟨rfl, fun K' hK => wp_ixs 25 (.tmp 135) (.tmp 136) s1 p 1 39 rfl (eval_tmp ((hin 5 135 rfl).trans (congrArg some (show uu 5 = s1.v from hd 5 (by decide) (by kernel_rfl))))) (eval_tmp ((hin 6 136 rfl).trans (congrArg some (show uu 6 = .int .i64 (((p : Nat) : Int)) from hd 6 (by decide) (by kernel_rfl))))) (by kernel_rfl) sz39 (fun h => ((hJ.get 5 (f := Mt ma (fun _ => ma) Ra s1) rfl).sq.nil h).1) ((hJ.get 5 (f := Mt ma (fun _ => ma) Ra s1) rfl).n ▸ (by omega)) (hK _ _ ⟨hJ, hJb⟩ rfl vzL_same)⟩
      ·
       exact .inr ⟨rfl, fun K' hK => wp_ldm 39 (.tmp 137) s1 p ma (fun _ => ma) Ra rfl (eval_tmp ((hin 7 137 rfl).trans (congrArg some (show uu 7 = (s1.at 1 p) from hd 7 (by decide) (by kernel_rfl))))) (hJ.get 5 (f := Mt ma (fun _ => ma) Ra s1) rfl) (by omega) ag39 (fun s28 hi_s28 => hK _ _ ⟨hJ, hJb⟩ ⟨s28, rfl, hi_s28⟩ vzL_same)⟩
      ·
       exact .inr ⟨rfl, fun K' hK => wp_move (.tmp 24) rfl (eval_tmp ((hev 24 (by decide)).trans rfl)) (hK _ _ ⟨hJ, hJb⟩ rfl vzL_same)⟩
      ·
       obtain ⟨s28, e8, hi_s28⟩ := (show (vls ma (Ra p)) (uu 8) X ww from hd 8 (by decide) (by kernel_rfl))
       replace hJ := hJ.more (f := Ls ma (Ra p) s28) (Ls.stb _ _ _) hi_s28
       exact .inr ⟨rfl, fun K' hK => wp_ixs 39 (.tmp 138) (.tmp 139) s28 j 2 45 rfl (eval_tmp ((hin 8 138 rfl).trans (congrArg some e8))) (eval_tmp ((hin 9 139 rfl).trans (congrArg some (show uu 9 = .int .i64 (((j : Nat) : Int)) from hd 9 (by decide) (by kernel_rfl))))) (by kernel_rfl) sz45 (fun h => ((hJ.get 0 (f := Ls ma (Ra p) s28) rfl).sq.nil h).1) ((hJ.get 0 (f := Ls ma (Ra p) s28) rfl).n ▸ (by omega)) (hK _ _ ⟨(hJ.only [Fl 2 (EN (mrw Ra p q tm j)) ma Cn, Fl 1 (ERo p ro (fun _ => ma) Ra) ma Co, Fl 1 (ER (fun _ => ma) Ra) ma Cc, Cf bk1 #[.bool q3.b, .slice q3.a q3.n q3.c] 45, q3.is, Mt ma (fun _ => ma) Ra s1] (by simp)), hJb⟩ ⟨s28, rfl, hi_s28⟩ vzL_same)⟩
      ·
       obtain ⟨s28, e10, hi_s28⟩ := (show (vat ma (Ra p) j) (uu 10) X ww from hd 10 (by decide) (by kernel_rfl))
       replace hJ := hJ.more (f := Ls ma (Ra p) s28) (Ls.stb _ _ _) hi_s28
       exact .inr ⟨rfl, fun K' hK => wp_ldn 45 (.tmp 140) s28 j ma (Ra p) rfl (eval_tmp ((hin 10 140 rfl).trans (congrArg some e10))) (hJ.get 0 (f := Ls ma (Ra p) s28) rfl) (by omega) ag45 sz45 (fun q29 ez_q29 hi_q29 => hK _ _ ⟨(hJ.only [Fl 2 (EN (mrw Ra p q tm j)) ma Cn, Fl 1 (ERo p ro (fun _ => ma) Ra) ma Co, Fl 1 (ER (fun _ => ma) Ra) ma Cc, Cf bk1 #[.bool q3.b, .slice q3.a q3.n q3.c] 45, q3.is, Mt ma (fun _ => ma) Ra s1] (by simp)), hJb⟩ ⟨q29, rfl, ez_q29, hi_q29⟩ vzL_same)⟩
      ·
       exact .inr ⟨rfl, fun K' hK => wp_move (.tmp 12) rfl (eval_tmp ((hev 12 (by decide)).trans rfl)) (hK _ _ ⟨hJ, hJb⟩ rfl vzL_same)⟩
      ·
       exact .inr ⟨rfl, fun K' hK => wp_move (.tmp 3) rfl (eval_tmp ((hev 3 (by decide)).trans rfl)) (hK _ _ ⟨hJ, hJb⟩ rfl vzL_same)⟩
      ·
       exact .inr ⟨rfl, fun K' hK => wp_ixs 25 (.tmp 142) (.tmp 143) s1 q 1 39 rfl (eval_tmp ((hin 12 142 rfl).trans (congrArg some (show uu 12 = s1.v from hd 12 (by decide) (by kernel_rfl))))) (eval_tmp ((hin 13 143 rfl).trans (congrArg some (show uu 13 = .int .i64 (((q : Nat) : Int)) from hd 13 (by decide) (by kernel_rfl))))) (by kernel_rfl) sz39 (fun h => ((hJ.get 5 (f := Mt ma (fun _ => ma) Ra s1) rfl).sq.nil h).1) ((hJ.get 5 (f := Mt ma (fun _ => ma) Ra s1) rfl).n ▸ (by omega)) (hK _ _ ⟨hJ, hJb⟩ rfl vzL_same)⟩
      ·
       exact .inr ⟨rfl, fun K' hK => wp_ldm 39 (.tmp 144) s1 q ma (fun _ => ma) Ra rfl (eval_tmp ((hin 14 144 rfl).trans (congrArg some (show uu 14 = (s1.at 1 q) from hd 14 (by decide) (by kernel_rfl))))) (hJ.get 5 (f := Mt ma (fun _ => ma) Ra s1) rfl) (by omega) ag39 (fun s30 hi_s30 => hK _ _ ⟨hJ, hJb⟩ ⟨s30, rfl, hi_s30⟩ vzL_same)⟩
      ·
       exact .inr ⟨rfl, fun K' hK => wp_move (.tmp 24) rfl (eval_tmp ((hev 24 (by decide)).trans rfl)) (hK _ _ ⟨hJ, hJb⟩ rfl vzL_same)⟩
      ·
       obtain ⟨s30, e15, hi_s30⟩ := (show (vls ma (Ra q)) (uu 15) X ww from hd 15 (by decide) (by kernel_rfl))
       replace hJ := hJ.more (f := Ls ma (Ra q) s30) (Ls.stb _ _ _) hi_s30
       exact .inr ⟨rfl, fun K' hK => wp_ixs 39 (.tmp 145) (.tmp 146) s30 j 2 45 rfl (eval_tmp ((hin 15 145 rfl).trans (congrArg some e15))) (eval_tmp ((hin 16 146 rfl).trans (congrArg some (show uu 16 = .int .i64 (((j : Nat) : Int)) from hd 16 (by decide) (by kernel_rfl))))) (by kernel_rfl) sz45 (fun h => ((hJ.get 0 (f := Ls ma (Ra q) s30) rfl).sq.nil h).1) ((hJ.get 0 (f := Ls ma (Ra q) s30) rfl).n ▸ (by omega)) (hK _ _ ⟨(hJ.only [Fl 2 (EN (mrw Ra p q tm j)) ma Cn, Fl 1 (ERo p ro (fun _ => ma) Ra) ma Co, Fl 1 (ER (fun _ => ma) Ra) ma Cc, Cf bk1 #[.bool q3.b, .slice q3.a q3.n q3.c] 45, q3.is, Mt ma (fun _ => ma) Ra s1] (by simp)), hJb⟩ ⟨s30, rfl, hi_s30⟩ vzL_same)⟩
      ·
       obtain ⟨s30, e17, hi_s30⟩ := (show (vat ma (Ra q) j) (uu 17) X ww from hd 17 (by decide) (by kernel_rfl))
       replace hJ := hJ.more (f := Ls ma (Ra q) s30) (Ls.stb _ _ _) hi_s30
       exact .inr ⟨rfl, fun K' hK => wp_ldn 45 (.tmp 147) s30 j ma (Ra q) rfl (eval_tmp ((hin 17 147 rfl).trans (congrArg some e17))) (hJ.get 0 (f := Ls ma (Ra q) s30) rfl) (by omega) ag45 sz45 (fun q31 ez_q31 hi_q31 => hK _ _ ⟨(hJ.only [Fl 2 (EN (mrw Ra p q tm j)) ma Cn, Fl 1 (ERo p ro (fun _ => ma) Ra) ma Co, Fl 1 (ER (fun _ => ma) Ra) ma Cc, Cf bk1 #[.bool q3.b, .slice q3.a q3.n q3.c] 45, q3.is, Mt ma (fun _ => ma) Ra s1] (by simp)), hJb⟩ ⟨q31, rfl, ez_q31, hi_q31⟩ vzL_same)⟩
      ·
       exact .inr ⟨rfl, fun K' hK => wp_move (.tmp 4) rfl (eval_tmp ((hev 4 (by decide)).trans rfl)) (hK _ _ ⟨hJ, hJb⟩ rfl vzL_same)⟩
      ·
       refine .inr ⟨rfl, fun K' hK => ?_⟩
       refine wp_callz (.func 33) #[.tmp 149] #[2] 33 #[] #[.int .i64 tm] _ rfl rfl (map1 (eval_tmp ((hin 19 149 rfl).trans (congrArg some (show uu 19 = .int .i64 tm from hd 19 (by decide) (by kernel_rfl)))))) rfl (fun _ _ => rfl) (zOf hJ.nx btm.1 btm.2) ?_
       rintro zz ww2 ⟨q32, rfl, ez_q32, hi_q32, hB⟩
       exact ⟨_, rfl, hK _ _ ⟨hJ.later hB, hJb.trans (hB.mono hJb.size)⟩ ⟨q32, rfl, ez_q32, hi_q32⟩ (vzL_later hVS21 hB)⟩
      ·
       obtain ⟨q31, e18, ez_q31, hi_q31⟩ := (show (vnum (Ra q j)) (uu 18) X ww from hd 18 (by decide) (by kernel_rfl))
       obtain ⟨q32, e20, ez_q32, hi_q32⟩ := (show (vnum (tm)) (uu 20) X ww from hd 20 (by decide) (by kernel_rfl))
       replace hJ := hJ.more (f := q31.is) q31.stb hi_q31
       replace hJ := hJ.more (f := q32.is) q32.stb hi_q32
       refine .inr ⟨rfl, fun K' hK => ?_⟩
       refine wp_callz (.func 29) #[.tmp 148, .tmp 150] #[45, 45] 29 #[] #[q31.v, q32.v] _ rfl rfl (map2 (eval_tmp ((hin 18 148 rfl).trans (congrArg some e18))) (eval_tmp ((hin 20 150 rfl).trans (congrArg some e20)))) rfl (fun _ _ => rfl) (zMul hJ.nx (hJ.get 1 (f := q31.is) rfl) (hJ.get 0 (f := q32.is) rfl) ez_q31 ez_q32 ((fun (t : Nat) (ht : t < ma) => (fun (i k : Nat) (hi : i < ma) (hk : k < ma) => sz_int (rga.out i k (by have := EAB.out; omega) (by rw [ha.2 i (by have := EAB.out; omega)]; have := EAB.out; omega)).1 (rga.out i k (by have := EAB.out; omega) (by rw [ha.2 i (by have := EAB.out; omega)]; have := EAB.out; omega)).2) q t hq ht) j (by omega)) (sz_int btm.1 btm.2) (by omega) (by omega)) ?_
       rintro zz ww2 ⟨q33, rfl, ez_q33, hi_q33, hB⟩
       exact ⟨_, rfl, hK _ _ ⟨(hJ.only [Fl 2 (EN (mrw Ra p q tm j)) ma Cn, Fl 1 (ERo p ro (fun _ => ma) Ra) ma Co, Fl 1 (ER (fun _ => ma) Ra) ma Cc, Cf bk1 #[.bool q3.b, .slice q3.a q3.n q3.c] 45, q3.is, Mt ma (fun _ => ma) Ra s1] (by simp)).later hB, hJb.trans (hB.mono hJb.size)⟩ ⟨q33, rfl, ez_q33, hi_q33⟩ (vzL_later hVS21 hB)⟩
      ·
       obtain ⟨q29, e11, ez_q29, hi_q29⟩ := (show (vnum (Ra p j)) (uu 11) X ww from hd 11 (by decide) (by kernel_rfl))
       obtain ⟨q33, e21, ez_q33, hi_q33⟩ := (show (vnum ((Ra q j) * tm)) (uu 21) X ww from hd 21 (by decide) (by kernel_rfl))
       replace hJ := hJ.more (f := q29.is) q29.stb hi_q29
       replace hJ := hJ.more (f := q33.is) q33.stb hi_q33
       refine .inr ⟨rfl, fun K' hK => ?_⟩
       refine wp_callz (.func 32) #[.tmp 141, .tmp 151] #[45, 45] 32 #[] #[q29.v, q33.v] _ rfl rfl (map2 (eval_tmp ((hin 11 141 rfl).trans (congrArg some e11))) (eval_tmp ((hin 21 151 rfl).trans (congrArg some e21)))) rfl (fun _ _ => rfl) (zAdd hJ.nx (hJ.get 1 (f := q29.is) rfl) (hJ.get 0 (f := q33.is) rfl) ez_q29 ez_q33 ((fun (t : Nat) (ht : t < ma) => (fun (i k : Nat) (hi : i < ma) (hk : k < ma) => sz_int (rga.out i k (by have := EAB.out; omega) (by rw [ha.2 i (by have := EAB.out; omega)]; have := EAB.out; omega)).1 (rga.out i k (by have := EAB.out; omega) (by rw [ha.2 i (by have := EAB.out; omega)]; have := EAB.out; omega)).2) p t hp ht) j (by omega)) (Sz.mul ((fun (t : Nat) (ht : t < ma) => (fun (i k : Nat) (hi : i < ma) (hk : k < ma) => sz_int (rga.out i k (by have := EAB.out; omega) (by rw [ha.2 i (by have := EAB.out; omega)]; have := EAB.out; omega)).1 (rga.out i k (by have := EAB.out; omega) (by rw [ha.2 i (by have := EAB.out; omega)]; have := EAB.out; omega)).2) q t hq ht) j (by omega)) (sz_int btm.1 btm.2)) (by omega) (by omega)) ?_
       rintro zz ww2 ⟨q34, rfl, ez_q34, hi_q34, hB⟩
       exact ⟨_, rfl, hK _ _ ⟨(hJ.only [Fl 2 (EN (mrw Ra p q tm j)) ma Cn, Fl 1 (ERo p ro (fun _ => ma) Ra) ma Co, Fl 1 (ER (fun _ => ma) Ra) ma Cc, Cf bk1 #[.bool q3.b, .slice q3.a q3.n q3.c] 45, q3.is, Mt ma (fun _ => ma) Ra s1] (by simp)).later hB, hJb.trans (hB.mono hJb.size)⟩ ⟨q34, rfl, ez_q34, hi_q34⟩ (vzL_later hVS21 hB)⟩
      ·
       exact .inr ⟨rfl, fun K' hK => wp_ixs 39 (.tmp 133) (.tmp 134) ro j 2 45 rfl (eval_tmp ((hin 3 133 rfl).trans (congrArg some (show uu 3 = ro.v from hd 3 (by decide) (by kernel_rfl))))) (eval_tmp ((hin 4 134 rfl).trans (congrArg some (show uu 4 = .int .i64 (((j : Nat) : Int)) from hd 4 (by decide) (by kernel_rfl))))) (by kernel_rfl) sz45 hw_ro.nil (by rw [hn_ro]; omega) (hK _ _ ⟨hJ, hJb⟩ rfl vzL_same)⟩
     clear hM
     intro uu W21 hZ66p hd
     obtain ⟨hZ66, hb21⟩ := hZ66p
     have e_0 : uu 0 = so.v := hd 0 (by decide)
     have e_1 : uu 1 = .int .i64 (((p : Nat) : Int)) := hd 1 (by decide)
     have e_2 : uu 2 = (so.at 1 p) := hd 2 (by decide)
     have e_3 : uu 3 = ro.v := hd 3 (by decide)
     have e_4 : uu 4 = .int .i64 (((j : Nat) : Int)) := hd 4 (by decide)
     have e_5 : uu 5 = s1.v := hd 5 (by decide)
     have e_6 : uu 6 = .int .i64 (((p : Nat) : Int)) := hd 6 (by decide)
     have e_7 : uu 7 = (s1.at 1 p) := hd 7 (by decide)
     obtain ⟨s28, e_8, hi_s28⟩ := (show (vls ma (Ra p)) (uu 8) X W21 from hd 8 (by decide))
     have e_9 : uu 9 = .int .i64 (((j : Nat) : Int)) := hd 9 (by decide)
     obtain ⟨s28_10, e_10, hi_s28_10⟩ := (show (vat ma (Ra p) j) (uu 10) X W21 from hd 10 (by decide))
     obtain ⟨q29, e_11, ez_q29, hi_q29⟩ := (show (vnum (Ra p j)) (uu 11) X W21 from hd 11 (by decide))
     have e_12 : uu 12 = s1.v := hd 12 (by decide)
     have e_13 : uu 13 = .int .i64 (((q : Nat) : Int)) := hd 13 (by decide)
     have e_14 : uu 14 = (s1.at 1 q) := hd 14 (by decide)
     obtain ⟨s30, e_15, hi_s30⟩ := (show (vls ma (Ra q)) (uu 15) X W21 from hd 15 (by decide))
     have e_16 : uu 16 = .int .i64 (((j : Nat) : Int)) := hd 16 (by decide)
     obtain ⟨s30_17, e_17, hi_s30_17⟩ := (show (vat ma (Ra q) j) (uu 17) X W21 from hd 17 (by decide))
     obtain ⟨q31, e_18, ez_q31, hi_q31⟩ := (show (vnum (Ra q j)) (uu 18) X W21 from hd 18 (by decide))
     have e_19 : uu 19 = .int .i64 tm := hd 19 (by decide)
     obtain ⟨q32, e_20, ez_q32, hi_q32⟩ := (show (vnum (tm)) (uu 20) X W21 from hd 20 (by decide))
     obtain ⟨q33, e_21, ez_q33, hi_q33⟩ := (show (vnum ((Ra q j) * tm)) (uu 21) X W21 from hd 21 (by decide))
     obtain ⟨q34, e_22, ez_q34, hi_q34⟩ := (show (vnum ((Ra p j) + ((Ra q j) * tm))) (uu 22) X W21 from hd 22 (by decide))
     have e_23 : uu 23 = (ro.at 2 j) := hd 23 (by decide)
     clear hd hVS21
     simp only [layS, Act.put, zzC, zzD, zzE, Nat.zero_add, Nat.reduceAdd, List.drop_succ_cons, List.drop_zero, List.drop_nil, e_0, e_1, e_2, e_3, e_4, e_5, e_6, e_7, e_8, e_9, e_10, e_11, e_12, e_13, e_14, e_15, e_16, e_17, e_18, e_19, e_20, e_21, e_22, e_23]
     clear e_0 e_1 e_2 e_3 e_4 e_5 e_6 e_7 e_8 e_9 e_10 e_11 e_12 e_13 e_14 e_15 e_16 e_17 e_18 e_19 e_20 e_21 e_22 e_23
     have hZ67 := hZ66.more (f := Ls ma (Ra p) s28) (Ls.stb _ _ _) hi_s28
     clear hZ66
     clear hi_s28
     have hZ68 := hZ67.more (f := Ls ma (Ra p) s28_10) (Ls.stb _ _ _) hi_s28_10
     clear hZ67
     clear hi_s28_10
     have hZ69 := hZ68.more (f := q29.is) q29.stb hi_q29
     clear hZ68
     clear hi_q29
     have hZ70 := hZ69.more (f := Ls ma (Ra q) s30) (Ls.stb _ _ _) hi_s30
     clear hZ69
     clear hi_s30
     have hZ71 := hZ70.more (f := Ls ma (Ra q) s30_17) (Ls.stb _ _ _) hi_s30_17
     clear hZ70
     clear hi_s30_17
     have hZ72 := hZ71.more (f := q31.is) q31.stb hi_q31
     clear hZ71
     clear hi_q31
     have hZ73 := hZ72.more (f := q32.is) q32.stb hi_q32
     clear hZ72
     clear hi_q32
     have hZ74 := hZ73.more (f := q33.is) q33.stb hi_q33
     clear hZ73
     clear hi_q33
     have hZ75 := hZ74.more (f := q34.is) q34.stb hi_q34
     clear hZ74
     clear hi_q34
     have hZ76y := hZ75.perm (perm_mid _ _ _)
     go_wp2_with (refine stopz_put 45 (.tmp 153) (.tmp 152) ro Cn j [.bool q34.b, .slice q34.a q34.n q34.c] rfl rfl rfl rfl sz45 rfl (by kernel_rfl) hw_ro (by rw [hn_ro]; omega) hZ76y (fun C35 W22 hw_ron hg_C35 ho_C35 hZ76x => ?_))
     clear hZ76y hw_ro
     have hw_ro := hw_ron
     clear hw_ron
     have hZ76 := hZ76x.perm (List.Perm.symm (perm_mid _ _ _))
     clear hZ76x
     clear hZ75
     unfold Stop
     try simp only [Act.put, zzC, zzD, zzE]
     have hZ77r : Fl 2 (EN (mrw Ra p q tm (j + 1))) ma C35 X W22 := Fl.put (hZ76.get 9 (f := Fl 2 (EN (mrw Ra p q tm j)) ma Cn) rfl) (cs := [.bool q34.b, .slice q34.a q34.n q34.c]) rfl hg_C35 ho_C35 ⟨q34, ez_q34.trans (by unfold mrw; rw [if_pos (Nat.lt_succ_self j)]), hZ76.get 0 (f := q34.is) rfl, rfl⟩ (fun m cs _ hne ⟨x, h1, h2, h3⟩ => ⟨x, h1.trans (mrw_ne hne), h2, h3⟩)
     have hZ77 := (hZ76.more (Fl.stb (EN.stb _) _ _) hZ77r).only [Fl 2 (EN (mrw Ra p q tm (j + 1))) ma C35, Fl 1 (ERo p ro (fun _ => ma) Ra) ma Co, Fl 1 (ER (fun _ => ma) Ra) ma Cc, Cf bk1 #[.bool q3.b, .slice q3.a q3.n q3.c] 45, q3.is, Mt ma (fun _ => ma) Ra s1] (by simp)
     clear hZ76 hZ77r
     go_wp2_with (refine stop_op rfl (fun K hK => wp_addi (.tmp 128) (.const (.int .i64 1)) rfl rfl rfl (C := ((j + 1 : Nat) : Int)) (by omega) (by omega) (by omega) (hK _ _ ?_)))
     unfold Stop
     try simp only [Act.put, zzC, zzD, zzE]
     go_wp2
     go_roundw
     case rel => exact ⟨j + 1, C35, _, by omega, by go_num, hw_ro, hZ77⟩
     case measure => simp [intOf]; omega
    ·
     obtain rfl : ma = j := by omega
     go_wp2_with (refine stop_op rfl (fun K hK => wp_lenq (.tmp 125) 25 39 s1 rfl (by kernel_rfl) rfl (hZn.get 5 (f := Mt ma (fun _ => ma) Ra s1) rfl).n (hK _ _ ?_)))
     unfold Stop
     try simp only [Act.put, zzC, zzD, zzE]
     go_wp2_with (refine stop_op rfl (fun K hK => wp_lssi (.tmp 124) (.tmp 126) rfl rfl rfl (r := false) (decide_eq_false (Int.lt_irrefl _)) (hK _ _ ?_)))
     unfold Stop
     try simp only [Act.put, zzC, zzD, zzE]
     go_wp2_with (refine stop_op rfl (fun K hK => wp_ixs 25 (.tmp 156) (.tmp 157) s1 q 1 39 rfl rfl rfl (by kernel_rfl) sz39 (fun h => ((hZn.get 5 (f := Mt ma (fun _ => ma) Ra s1) rfl).sq.nil h).1) ((hZn.get 5 (f := Mt ma (fun _ => ma) Ra s1) rfl).n ▸ (by omega)) (hK _ _ ?_)))
     unfold Stop
     try simp only [Act.put, zzC, zzD, zzE]
     go_wp2_with (refine stop_op rfl (fun K hK => wp_ldm 39 (.tmp 158) s1 q ma (fun _ => ma) Ra rfl rfl (hZn.get 5 (f := Mt ma (fun _ => ma) Ra s1) rfl) (by omega) ag39 (fun s36 hi_s36 => hK _ _ ?_)))
     unfold Stop
     try simp only [Act.put, zzC, zzD, zzE]
     have hZ78 := hZn.more (f := Ls ma (Ra q) s36) (Ls.stb _ _ _) hi_s36
     clear hZn
     clear hi_s36
     go_wp2_with (refine stop_op rfl (fun K hK => wp_ixs 25 (.tmp 154) (.tmp 155) sc p 1 39 rfl rfl rfl (by kernel_rfl) sz39 hw_sc.nil (by rw [hn_sc]; omega) (hK _ _ ?_)))
     unfold Stop
     try simp only [Act.put, zzC, zzD, zzE]
     have hZ79y := hZ78.perm ((List.Perm.append_left _ ((List.Perm.append_left _ List.perm_append_comm).trans (perm_mid _ _ _))).trans (perm_mid _ _ _))
     go_wp2_with (refine stopz_put 39 (.tmp 160) (.tmp 159) sc Cc p [s36.v] rfl rfl rfl rfl sz39 rfl (by kernel_rfl) hw_sc (by rw [hn_sc]; omega) hZ79y (fun C37 W23 hw_scn hg_C37 ho_C37 hZ79x => ?_))
     clear hZ79y hw_sc
     have hw_sc := hw_scn
     clear hw_scn
     have hZ79 := hZ79x.perm (List.Perm.symm ((List.Perm.append_left _ ((List.Perm.append_left _ List.perm_append_comm).trans (perm_mid _ _ _))).trans (perm_mid _ _ _)))
     clear hZ79x
     clear hZ78
     unfold Stop
     try simp only [Act.put, zzC, zzD, zzE]
     have hZ80r : Fl 1 (ER (fun _ => ma) (M.rw' Ra p (Ra q))) ma C37 X W23 := Fl.put (hZ79.get 3 (f := Fl 1 (ER (fun _ => ma) Ra) ma Cc) rfl) (cs := [s36.v]) rfl hg_C37 ho_C37 ⟨s36, (hZ79.get 0 (f := Ls ma (Ra q) s36) rfl).congr (fun t _ => (M.rw_self Ra p (Ra q) t).symm), rfl⟩ (fun m cs _ hne ⟨r, h1, h2⟩ => ⟨r, h1.congr (fun t _ => (M.rw_ne hne t).symm), h2⟩)
     have hZ80 := (hZ79.more (Fl.stb (ER.stb _ _) _ _) hZ80r).only [Fl 2 (EN (mrw Ra p q tm ma)) ma Cn, Fl 1 (ERo p ro (fun _ => ma) Ra) ma Co, Fl 1 (ER (fun _ => ma) (M.rw' Ra p (Ra q))) ma C37, Cf bk1 #[.bool q3.b, .slice q3.a q3.n q3.c] 45, q3.is, Mt ma (fun _ => ma) Ra s1] (by simp)
     clear hZ79 hZ80r
     go_wp2_with (refine stop_op rfl (fun K hK => wp_ixs 25 (.tmp 163) (.tmp 164) s1 p 1 39 rfl rfl rfl (by kernel_rfl) sz39 (fun h => ((hZ80.get 5 (f := Mt ma (fun _ => ma) Ra s1) rfl).sq.nil h).1) ((hZ80.get 5 (f := Mt ma (fun _ => ma) Ra s1) rfl).n ▸ (by omega)) (hK _ _ ?_)))
     unfold Stop
     try simp only [Act.put, zzC, zzD, zzE]
     go_wp2_with (refine stop_op rfl (fun K hK => wp_ldm 39 (.tmp 165) s1 p ma (fun _ => ma) Ra rfl rfl (hZ80.get 5 (f := Mt ma (fun _ => ma) Ra s1) rfl) (by omega) ag39 (fun s38 hi_s38 => hK _ _ ?_)))
     unfold Stop
     try simp only [Act.put, zzC, zzD, zzE]
     have hZ81 := hZ80.more (f := Ls ma (Ra p) s38) (Ls.stb _ _ _) hi_s38
     clear hZ80
     clear hi_s38
     go_wp2_with (refine stop_op rfl (fun K hK => wp_ixs 25 (.tmp 161) (.tmp 162) sc q 1 39 rfl rfl rfl (by kernel_rfl) sz39 hw_sc.nil (by rw [hn_sc]; omega) (hK _ _ ?_)))
     unfold Stop
     try simp only [Act.put, zzC, zzD, zzE]
     have hZ82y := hZ81.perm ((List.Perm.append_left _ ((List.Perm.append_left _ List.perm_append_comm).trans (perm_mid _ _ _))).trans (perm_mid _ _ _))
     go_wp2_with (refine stopz_put 39 (.tmp 167) (.tmp 166) sc C37 q [s38.v] rfl rfl rfl rfl sz39 rfl (by kernel_rfl) hw_sc (by rw [hn_sc]; omega) hZ82y (fun C39 W24 hw_scn hg_C39 ho_C39 hZ82x => ?_))
     clear hZ82y hw_sc
     have hw_sc := hw_scn
     clear hw_scn
     have hZ82 := hZ82x.perm (List.Perm.symm ((List.Perm.append_left _ ((List.Perm.append_left _ List.perm_append_comm).trans (perm_mid _ _ _))).trans (perm_mid _ _ _)))
     clear hZ82x
     clear hZ81
     unfold Stop
     try simp only [Act.put, zzC, zzD, zzE]
     have hZ83r : Fl 1 (ER (fun _ => ma) (chg Ra p q)) ma C39 X W24 := Fl.put (hZ82.get 3 (f := Fl 1 (ER (fun _ => ma) (M.rw' Ra p (Ra q))) ma C37) rfl) (cs := [s38.v]) rfl hg_C39 ho_C39 ⟨s38, (hZ82.get 0 (f := Ls ma (Ra p) s38) rfl).congr (fun t _ => (M.rw_self (M.rw' Ra p (Ra q)) q (Ra p) t).symm), rfl⟩ (fun m cs _ hne ⟨r, h1, h2⟩ => ⟨r, h1.congr (fun t _ => (M.rw_ne hne t).symm), h2⟩)
     have hZ83 := (hZ82.more (Fl.stb (ER.stb _ _) _ _) hZ83r).only [Fl 2 (EN (mrw Ra p q tm ma)) ma Cn, Fl 1 (ERo p ro (fun _ => ma) Ra) ma Co, Fl 1 (ER (fun _ => ma) (chg Ra p q)) ma C39, Cf bk1 #[.bool q3.b, .slice q3.a q3.n q3.c] 45, q3.is, Mt ma (fun _ => ma) Ra s1] (by simp)
     clear hZ82 hZ83r
     have hZ84a : Ls ma (mrw Ra p q tm ma) ro X0 W24 := ⟨hn_ro, hZ83.sq hX (EN.stb _) hw_ro (T := 45) (fun p hp => by simp only [List.nil_append, List.mem_append]; first | exact .inl hp | exact .inr (.inl hp) | exact .inr (.inr hp)) (hn_ro ▸ hZ83.get 0 (f := Fl 2 (EN (mrw Ra p q tm ma)) ma Cn) rfl)⟩
     have hZ84d := adr_fl hZ84a (hZ83.out 1 (f := Fl 1 (ERo p ro (fun _ => ma) Ra) ma Co) rfl)
     have hZ84b : Mt ma (fun _ => ma) (adr Ra p q tm) so X0 W24 := ⟨hn_so, hZ83.sq0 hX hw_so (T := 39) (fun p hp => by simp only [List.nil_append, List.mem_append]; first | exact .inl hp | exact .inr (.inl hp) | exact .inr (.inr hp)) (hn_so ▸ hZ84d)⟩
     clear hZ84d
     have hZ84c : Mt ma (fun _ => ma) (chg Ra p q) sc X0 W24 := ⟨hn_sc, hZ83.sq hX (ER.stb _ _) hw_sc (T := 39) (fun p hp => by simp only [List.nil_append, List.mem_append]; first | exact .inl hp | exact .inr (.inl hp) | exact .inr (.inr hp)) (hn_sc ▸ hZ83.get 2 (f := Fl 1 (ER (fun _ => ma) (chg Ra p q)) ma C39) rfl)⟩
     have hZ84 := (((hZ83.close hX).more (Mt.stb _ _ _ _) hZ84c).more (Mt.stb _ _ _ _) hZ84b).only [Mt ma (fun _ => ma) (adr Ra p q tm) so, Mt ma (fun _ => ma) (chg Ra p q) sc, Cf bk1 #[.bool q3.b, .slice q3.a q3.n q3.c] 45, q3.is] (by simp)
     clear hZ83 hZ84a hZ84b hZ84c
     go_wp2
     have hM : Zs w W24.drew X0 X0 [] [Mt ma (fun _ => ma) (adr Ra p q tm) so, Mt ma (fun _ => ma) (chg Ra p q) sc, Cf bk1 #[.bool q3.b, .slice q3.a q3.n q3.c] 45, q3.is] ∧ Below W24.heap.size W24 W24.drew := ⟨hZ84.later (Below.refl _ _).drew, (Below.refl _ _).drew⟩
     clear hZ84
     have hVS24 : ∀ k, k ∈ ([veq (so.v), vnum (M.dt ma (adr Ra p q tm)), veq (q3.v), veq (.int .i64 ((cmpI (M.dt ma (adr Ra p q tm)) (M.dt ma Ra)))), veq (.int .i64 ((cmpI (M.dt ma (adr Ra p q tm)) (M.dt ma Ra))))] : List VF) → VSt k := by
      intro k hk
      simp only [List.mem_cons, List.not_mem_nil, or_false] at hk
      rcases hk with rfl | rfl | rfl | rfl | rfl
      ·
       exact veq_st _
      ·
       exact vnum_st _
      ·
       exact veq_st _
      ·
       exact veq_st _
      ·
       exact veq_st _
     refine wp_region_q 5 [some 168, some 169, some 170, some 171, some 25] (vzL [veq (so.v), vnum (M.dt ma (adr Ra p q tm)), veq (q3.v), veq (.int .i64 ((cmpI (M.dt ma (adr Ra p q tm)) (M.dt ma Ra)))), veq (.int .i64 ((cmpI (M.dt ma (adr Ra p q tm)) (M.dt ma Ra))))] X0) (fun W => Zs w W X0 X0 [] [Mt ma (fun _ => ma) (adr Ra p q tm) so, Mt ma (fun _ => ma) (chg Ra p q) sc, Cf bk1 #[.bool q3.b, .slice q3.a q3.n q3.c] 45, q3.is] ∧ Below W24.heap.size W24 W) (by kernel_rfl) (by kernel_rfl) (by rfl) (by decide) (by rfl) hM ?_ ?_
     ·
      intro i hl hi LL uu ww aa hLi hLc hJ hd hev hin hold
      clear hM
      obtain ⟨hJ, hJb⟩ := hJ
      obtain rfl | rfl | rfl | rfl | rfl : i = 0 ∨ i = 1 ∨ i = 2 ∨ i = 3 ∨ i = 4 := by omega
      ·
       exact .inr ⟨rfl, fun K' hK => wp_move (.tmp 21) rfl (eval_tmp ((hev 21 (by decide)).trans rfl)) (hK _ _ ⟨hJ, hJb⟩ rfl vzL_same)⟩
      ·
       refine .inr ⟨rfl, fun K' hK => ?_⟩
       refine wp_callz (.func 17) #[.tmp 168] #[25] 17 #[] #[so.v] _ rfl rfl (map1 (eval_tmp ((hin 0 168 rfl).trans (congrArg some (show uu 0 = so.v from hd 0 (by decide) (by kernel_rfl)))))) rfl (fun _ _ => rfl) (lDet hJ.nx so (e := 8) (by omega) (by omega) (by omega) (hJ.get 0 (f := Mt ma (fun _ => ma) (adr Ra p q tm) so) rfl) (adr_sz (sz_int btm.1 btm.2) hp hq (fun (i k : Nat) (hi : i < ma) (hk : k < ma) => sz_int (rga.out i k (by have := EAB.out; omega) (by rw [ha.2 i (by have := EAB.out; omega)]; have := EAB.out; omega)).1 (rga.out i k (by have := EAB.out; omega) (by rw [ha.2 i (by have := EAB.out; omega)]; have := EAB.out; omega)).2))) ?_
       rintro zz ww2 ⟨q40, rfl, ez_q40, hi_q40, hB⟩
       exact ⟨_, rfl, hK _ _ ⟨hJ.later hB, hJb.trans (hB.mono hJb.size)⟩ ⟨q40, rfl, ez_q40, hi_q40⟩ (vzL_later hVS24 hB)⟩
      ·
       exact .inr ⟨rfl, fun K' hK => wp_load 45 (.tmp 18) rfl bk1 0 2 #[.bool q3.b, .slice q3.a q3.n q3.c] #[.bool q3.b, .slice q3.a q3.n q3.c] 45 (hJ.get 2 (f := Cf bk1 #[.bool q3.b, .slice q3.a q3.n q3.c] 45) rfl).1 (eval_tmp ((hev 18 (by decide)).trans rfl)) ag45 sz45 (zzF (by kernel_rfl)) (by kernel_rfl) (hK _ _ ⟨hJ, hJb⟩ rfl vzL_same)⟩
      ·
       obtain ⟨q40, e1, ez_q40, hi_q40⟩ := (show (vnum (M.dt ma (adr Ra p q tm))) (uu 1) X0 ww from hd 1 (by decide) (by kernel_rfl))
       replace hJ := hJ.more (f := q40.is) q40.stb hi_q40
       refine .inr ⟨rfl, fun K' hK => ?_⟩
       refine wp_callz (.func 28) #[.tmp 169, .tmp 170] #[45, 45] 28 #[] #[q40.v, q3.v] _ rfl rfl (map2 (eval_tmp ((hin 1 169 rfl).trans (congrArg some e1))) (eval_tmp ((hin 2 170 rfl).trans (congrArg some (show uu 2 = q3.v from hd 2 (by decide) (by kernel_rfl)))))) rfl (fun _ _ => rfl) (zCmp (hJ.get 0 (f := q40.is) rfl) (hJ.get 4 (f := q3.is) rfl) ez_q40 ez_q3) ?_
       rintro zz ww2 ⟨rfl, hB⟩
       exact ⟨_, rfl, hK _ _ ⟨(hJ.only [Mt ma (fun _ => ma) (adr Ra p q tm) so, Mt ma (fun _ => ma) (chg Ra p q) sc, Cf bk1 #[.bool q3.b, .slice q3.a q3.n q3.c] 45, q3.is] (by simp)).later hB, hJb.trans (hB.mono hJb.size)⟩ rfl (vzL_later hVS24 hB)⟩
      ·
       exact .inr ⟨rfl, fun K' hK => wp_asgn (.tmp 171) rfl (eval_tmp ((hin 3 171 rfl).trans (congrArg some (show uu 3 = .int .i64 ((cmpI (M.dt ma (adr Ra p q tm)) (M.dt ma Ra))) from hd 3 (by decide) (by kernel_rfl))))) (hK _ _ ⟨hJ, hJb⟩ rfl vzL_same)⟩
     clear hM
     intro uu W25 hZ85p hd
     obtain ⟨hZ85, hb24⟩ := hZ85p
     have e_0 : uu 0 = so.v := hd 0 (by decide)
     obtain ⟨q40, e_1, ez_q40, hi_q40⟩ := (show (vnum (M.dt ma (adr Ra p q tm))) (uu 1) X0 W25 from hd 1 (by decide))
     have e_2 : uu 2 = q3.v := hd 2 (by decide)
     have e_3 : uu 3 = .int .i64 ((cmpI (M.dt ma (adr Ra p q tm)) (M.dt ma Ra))) := hd 3 (by decide)
     have e_4 : uu 4 = .int .i64 ((cmpI (M.dt ma (adr Ra p q tm)) (M.dt ma Ra))) := hd 4 (by decide)
     clear hd hVS24
     simp only [layS, Act.put, zzC, zzD, zzE, Nat.zero_add, Nat.reduceAdd, List.drop_succ_cons, List.drop_zero, List.drop_nil, e_0, e_1, e_2, e_3, e_4]
     clear e_0 e_1 e_2 e_3 e_4
     have hZ86 := hZ85.more (f := q40.is) q40.stb hi_q40
     clear hZ85
     clear hi_q40
     have hZ87 := hZ86.only [Mt ma (fun _ => ma) (adr Ra p q tm) so, Mt ma (fun _ => ma) (chg Ra p q) sc, Cf bk1 #[.bool q3.b, .slice q3.a q3.n q3.c] 45, q3.is] (by simp)
     clear hZ86
     go_wp2
     have hM : Zs w W25.drew X0 X0 [] [Mt ma (fun _ => ma) (adr Ra p q tm) so, Mt ma (fun _ => ma) (chg Ra p q) sc, Cf bk1 #[.bool q3.b, .slice q3.a q3.n q3.c] 45, q3.is] ∧ Below W25.heap.size W25 W25.drew := ⟨hZ87.later (Below.refl _ _).drew, (Below.refl _ _).drew⟩
     clear hZ87
     have hVS25 : ∀ k, k ∈ ([veq (sc.v), vnum (M.dt ma (chg Ra p q)), veq (q3.v), vnum (-(M.dt ma Ra)), veq (.int .i64 ((cmpI (M.dt ma (chg Ra p q)) (-(M.dt ma Ra))))), veq (.int .i64 ((cmpI (M.dt ma (chg Ra p q)) (-(M.dt ma Ra)))))] : List VF) → VSt k := by
      intro k hk
      simp only [List.mem_cons, List.not_mem_nil, or_false] at hk
      rcases hk with rfl | rfl | rfl | rfl | rfl | rfl
      ·
       exact veq_st _
      ·
       exact vnum_st _
      ·
       exact veq_st _
      ·
       exact vnum_st _
      ·
       exact veq_st _
      ·
       exact veq_st _
     refine wp_region_q 6 [some 172, some 173, some 174, some 175, some 176, some 26] (vzL [veq (sc.v), vnum (M.dt ma (chg Ra p q)), veq (q3.v), vnum (-(M.dt ma Ra)), veq (.int .i64 ((cmpI (M.dt ma (chg Ra p q)) (-(M.dt ma Ra))))), veq (.int .i64 ((cmpI (M.dt ma (chg Ra p q)) (-(M.dt ma Ra)))))] X0) (fun W => Zs w W X0 X0 [] [Mt ma (fun _ => ma) (adr Ra p q tm) so, Mt ma (fun _ => ma) (chg Ra p q) sc, Cf bk1 #[.bool q3.b, .slice q3.a q3.n q3.c] 45, q3.is] ∧ Below W25.heap.size W25 W) (by kernel_rfl) (by kernel_rfl) (by rfl) (by decide) (by rfl) hM ?_ ?_
     ·
      intro i hl hi LL uu ww aa hLi hLc hJ hd hev hin hold
      clear hM
      obtain ⟨hJ, hJb⟩ := hJ
      obtain rfl | rfl | rfl | rfl | rfl | rfl : i = 0 ∨ i = 1 ∨ i = 2 ∨ i = 3 ∨ i = 4 ∨ i = 5 := by omega
      ·
       exact .inr ⟨rfl, fun K' hK => wp_move (.tmp 22) rfl (eval_tmp ((hev 22 (by decide)).trans rfl)) (hK _ _ ⟨hJ, hJb⟩ rfl vzL_same)⟩
      ·
       refine .inr ⟨rfl, fun K' hK => ?_⟩
       refine wp_callz (.func 17) #[.tmp 172] #[25] 17 #[] #[sc.v] _ rfl rfl (map1 (eval_tmp ((hin 0 172 rfl).trans (congrArg some (show uu 0 = sc.v from hd 0 (by decide) (by kernel_rfl)))))) rfl (fun _ _ => rfl) (lDet hJ.nx sc (e := 2) (by omega) (by omega) (by omega) (hJ.get 1 (f := Mt ma (fun _ => ma) (chg Ra p q) sc) rfl) (chg_sz hp hq (fun (i k : Nat) (hi : i < ma) (hk : k < ma) => sz_int (rga.out i k (by have := EAB.out; omega) (by rw [ha.2 i (by have := EAB.out; omega)]; have := EAB.out; omega)).1 (rga.out i k (by have := EAB.out; omega) (by rw [ha.2 i (by have := EAB.out; omega)]; have := EAB.out; omega)).2))) ?_
       rintro zz ww2 ⟨q41, rfl, ez_q41, hi_q41, hB⟩
       exact ⟨_, rfl, hK _ _ ⟨hJ.later hB, hJb.trans (hB.mono hJb.size)⟩ ⟨q41, rfl, ez_q41, hi_q41⟩ (vzL_later hVS25 hB)⟩
      ·
       exact .inr ⟨rfl, fun K' hK => wp_load 45 (.tmp 18) rfl bk1 0 2 #[.bool q3.b, .slice q3.a q3.n q3.c] #[.bool q3.b, .slice q3.a q3.n q3.c] 45 (hJ.get 2 (f := Cf bk1 #[.bool q3.b, .slice q3.a q3.n q3.c] 45) rfl).1 (eval_tmp ((hev 18 (by decide)).trans rfl)) ag45 sz45 (zzF (by kernel_rfl)) (by kernel_rfl) (hK _ _ ⟨hJ, hJb⟩ rfl vzL_same)⟩
      ·
       refine .inr ⟨rfl, fun K' hK => ?_⟩
       refine wp_callz (.func 34) #[.tmp 174] #[45] 34 #[] #[q3.v] _ rfl rfl (map1 (eval_tmp ((hin 2 174 rfl).trans (congrArg some (show uu 2 = q3.v from hd 2 (by decide) (by kernel_rfl)))))) rfl (fun _ _ => rfl) (zNeg hJ.nx (hJ.get 3 (f := q3.is) rfl) ez_q3 (dt_sz (fun (i k : Nat) (hi : i < ma) (hk : k < ma) => sz_int (rga.out i k (by have := EAB.out; omega) (by rw [ha.2 i (by have := EAB.out; omega)]; have := EAB.out; omega)).1 (rga.out i k (by have := EAB.out; omega) (by rw [ha.2 i (by have := EAB.out; omega)]; have := EAB.out; omega)).2)) (by omega)) ?_
       rintro zz ww2 ⟨q42, rfl, ez_q42, hi_q42, hB⟩
       exact ⟨_, rfl, hK _ _ ⟨hJ.later hB, hJb.trans (hB.mono hJb.size)⟩ ⟨q42, rfl, ez_q42, hi_q42⟩ (vzL_later hVS25 hB)⟩
      ·
       obtain ⟨q41, e1, ez_q41, hi_q41⟩ := (show (vnum (M.dt ma (chg Ra p q))) (uu 1) X0 ww from hd 1 (by decide) (by kernel_rfl))
       obtain ⟨q42, e3, ez_q42, hi_q42⟩ := (show (vnum (-(M.dt ma Ra))) (uu 3) X0 ww from hd 3 (by decide) (by kernel_rfl))
       replace hJ := hJ.more (f := q41.is) q41.stb hi_q41
       replace hJ := hJ.more (f := q42.is) q42.stb hi_q42
       refine .inr ⟨rfl, fun K' hK => ?_⟩
       refine wp_callz (.func 28) #[.tmp 173, .tmp 175] #[45, 45] 28 #[] #[q41.v, q42.v] _ rfl rfl (map2 (eval_tmp ((hin 1 173 rfl).trans (congrArg some e1))) (eval_tmp ((hin 3 175 rfl).trans (congrArg some e3)))) rfl (fun _ _ => rfl) (zCmp (hJ.get 1 (f := q41.is) rfl) (hJ.get 0 (f := q42.is) rfl) ez_q41 ez_q42) ?_
       rintro zz ww2 ⟨rfl, hB⟩
       exact ⟨_, rfl, hK _ _ ⟨(hJ.only [Mt ma (fun _ => ma) (adr Ra p q tm) so, Mt ma (fun _ => ma) (chg Ra p q) sc, Cf bk1 #[.bool q3.b, .slice q3.a q3.n q3.c] 45, q3.is] (by simp)).later hB, hJb.trans (hB.mono hJb.size)⟩ rfl (vzL_later hVS25 hB)⟩
      ·
       exact .inr ⟨rfl, fun K' hK => wp_asgn (.tmp 176) rfl (eval_tmp ((hin 4 176 rfl).trans (congrArg some (show uu 4 = .int .i64 ((cmpI (M.dt ma (chg Ra p q)) (-(M.dt ma Ra)))) from hd 4 (by decide) (by kernel_rfl))))) (hK _ _ ⟨hJ, hJb⟩ rfl vzL_same)⟩
     clear hM
     intro uu W26 hZ88p hd
     obtain ⟨hZ88, hb25⟩ := hZ88p
     have e_0 : uu 0 = sc.v := hd 0 (by decide)
     obtain ⟨q41, e_1, ez_q41, hi_q41⟩ := (show (vnum (M.dt ma (chg Ra p q))) (uu 1) X0 W26 from hd 1 (by decide))
     have e_2 : uu 2 = q3.v := hd 2 (by decide)
     obtain ⟨q42, e_3, ez_q42, hi_q42⟩ := (show (vnum (-(M.dt ma Ra))) (uu 3) X0 W26 from hd 3 (by decide))
     have e_4 : uu 4 = .int .i64 ((cmpI (M.dt ma (chg Ra p q)) (-(M.dt ma Ra)))) := hd 4 (by decide)
     have e_5 : uu 5 = .int .i64 ((cmpI (M.dt ma (chg Ra p q)) (-(M.dt ma Ra)))) := hd 5 (by decide)
     clear hd hVS25
     simp only [layS, Act.put, zzC, zzD, zzE, Nat.zero_add, Nat.reduceAdd, List.drop_succ_cons, List.drop_zero, List.drop_nil, e_0, e_1, e_2, e_3, e_4, e_5]
     clear e_0 e_1 e_2 e_3 e_4 e_5
     have hZ89 := hZ88.more (f := q41.is) q41.stb hi_q41
     clear hZ88
     clear hi_q41
     have hZ90 := hZ89.more (f := q42.is) q42.stb hi_q42
     clear hZ89
     clear hi_q42
     have hZ91 := hZ90.only [] (by simp)
     clear hZ90
     go_wp2_with (refine stop_opw (by kernel_rfl) (fun K hK => wp_eqli (.tmp 179) (.const (.int .i64 0)) 3 3 rfl rfl rfl rfl (r := true) (ceq_t (M.dt_mul ma Ra Rb)) (hK _ _ ?_)))
     unfold Stop
     try simp only [Act.put, zzC, zzD, zzE]
     go_wp2_with (refine stop_opw (by kernel_rfl) (fun K hK => wp_eqli (.tmp 183) (.const (.int .i64 0)) 3 3 rfl rfl rfl rfl (r := true) (ceq_t (M.dt_tr ma Ra)) (hK _ _ ?_)))
     unfold Stop
     try simp only [Act.put, zzC, zzD, zzE]
     go_wp2_with (refine stop_opw (by kernel_rfl) (fun K hK => wp_eqli (.tmp 187) (.const (.int .i64 0)) 3 3 rfl rfl rfl rfl (r := true) (ceq_t (adr_dt Ra tm hpq hp hq)) (hK _ _ ?_)))
     unfold Stop
     try simp only [Act.put, zzC, zzD, zzE]
     go_wp2_with (refine stop_opw (by kernel_rfl) (fun K hK => wp_eqli (.tmp 191) (.const (.int .i64 0)) 3 3 rfl rfl rfl rfl (r := true) (ceq_t (chg_dt Ra hpq hp hq)) (hK _ _ ?_)))
     unfold Stop
     try simp only [Act.put, zzC, zzD, zzE]
     go_wp2
     go_ret
     exact ⟨rfl, hZ91.below⟩
end Go.Proofs.YtolpfibihialkaaDoor
