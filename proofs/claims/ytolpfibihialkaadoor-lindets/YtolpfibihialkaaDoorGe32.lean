/- Parts of the proof. -/
import Derived.Test.YtolpfibihialkaaDoorGe0
import Derived.Test.YtolpfibihialkaaDoorGe31
/- The law LinMakes of layer 7, walked. No statement of the seat is proved here. -/
namespace Go.Proofs.YtolpfibihialkaaDoor
open Go Go.RowKit
open Classical in
set_option maxRecDepth 100000 in
set_option maxHeartbeats 25600000 in
theorem lmk1 {X0 : Nat → Prop} {w : World} (hX : NX X0 w) (ra : Sl) (ma : Nat) (ca : Nat → Nat) (Ra : Nat → Nat → Int) (hra : Mi ma ca Ra ra X0 w) (rga0 : ∀ i j, i < ma → j < ca i → -9223372036854775808 ≤ Ra i j ∧ Ra i j ≤ 9223372036854775807) (hm : ¬ ma ≤ 12) : Calls Tryd.prog 3 #[ra.v] w (PVal (.bool true) w) := by
 have rga := Lib.hid rga0
 clear rga0
 have hZ0 := zs_start hX
 have hZ1 := hZ0.more (f := Mi ma ca Ra ra) (Mi.stb _ _ _ _) hra
 clear hZ0
 go_enter Tryd.func3, Tryd.ntmps3
 go_wp2_with fail
 refine (gAwake hZ1.nx).mono ?_
 rintro zz W1 ⟨rfl, hB⟩
 have hZ2 := hZ1.later hB
 clear hB
 clear hZ1
 go_wp2_with fail
 refine ((lOf hZ2.nx ra (hZ2.get 0 (f := Mi ma ca Ra ra) rfl) (fun _ hck i j hi hj => rga.out i j hi (by rw [hck i hi]; exact hj))).mono (of_long hm)).mono ?_
 rintro zz W2 ⟨rfl, hB⟩
 have hZ3 := hZ2.later hB
 clear hB
 clear hZ2
 go_wp2_with (refine stop_op rfl (fun K hK => wp_lenq (.tmp 13) 22 36 ra rfl (by kernel_rfl) rfl (hZ3.get 0 (f := Mi ma ca Ra ra) rfl).n (hK _ _ ?_)))
 unfold Stop
 try simp only [Act.put, zzC, zzD, zzE]
 go_wp2_with (refine stop_op rfl (fun K hK => wp_gtri (.tmp 14) (.const (.int .i64 12)) rfl rfl rfl (r := true) (decide_eq_true (by omega)) (hK _ _ ?_)))
 unfold Stop
 try simp only [Act.put, zzC, zzD, zzE]
 go_wp2_with (refine stop_opw (by kernel_rfl) (fun K hK => wp_lenq (.tmp 22) 25 39 slz rfl (by kernel_rfl) rfl (n := 0) rfl (hK _ _ ?_)))
 unfold Stop
 try simp only [Act.put, zzC, zzD, zzE]
 go_wp2_with (refine stop_opw (by kernel_rfl) (fun K hK => wp_eqli (.tmp 23) (.const (.int .i64 0)) 3 3 rfl rfl rfl rfl (r := true) (decide_eq_true rfl) (hK _ _ ?_)))
 unfold Stop
 try simp only [Act.put, zzC, zzD, zzE]
 go_wp2
 go_ret
 exact ⟨rfl, hZ3.below⟩
open Classical in
set_option maxRecDepth 100000 in
set_option maxHeartbeats 25600000 in
theorem lmk2 {X0 : Nat → Prop} {w : World} (hX : NX X0 w) (ra : Sl) (ma : Nat) (ca : Nat → Nat) (Ra : Nat → Nat → Int) (hra : Mi ma ca Ra ra X0 w) (rga0 : ∀ i j, i < ma → j < ca i → -9223372036854775808 ≤ Ra i j ∧ Ra i j ≤ 9223372036854775807) (hm : ma ≤ 12) (hsq : ¬ (∀ k, k < ma → ca k = ma)) : Calls Tryd.prog 3 #[ra.v] w (PVal (.bool true) w) := by
 have rga := Lib.hid rga0
 clear rga0
 have hZ0 := zs_start hX
 have hZ1 := hZ0.more (f := Mi ma ca Ra ra) (Mi.stb _ _ _ _) hra
 clear hZ0
 go_enter Tryd.func3, Tryd.ntmps3
 go_wp2_with fail
 refine (gAwake hZ1.nx).mono ?_
 rintro zz W1 ⟨rfl, hB⟩
 have hZ2 := hZ1.later hB
 clear hB
 clear hZ1
 go_wp2_with fail
 refine ((lOf hZ2.nx ra (hZ2.get 0 (f := Mi ma ca Ra ra) rfl) (fun _ hck i j hi hj => rga.out i j hi (by rw [hck i hi]; exact hj))).mono (of_arg hm hsq)).mono ?_
 rintro zz W2 ⟨rfl, hB⟩
 have hZ3 := hZ2.later hB
 clear hB
 clear hZ2
 go_wp2_with (refine stop_op rfl (fun K hK => wp_lenq (.tmp 13) 22 36 ra rfl (by kernel_rfl) rfl (hZ3.get 0 (f := Mi ma ca Ra ra) rfl).n (hK _ _ ?_)))
 unfold Stop
 try simp only [Act.put, zzC, zzD, zzE]
 go_wp2_with (refine stop_op rfl (fun K hK => wp_gtri (.tmp 14) (.const (.int .i64 12)) rfl rfl rfl (r := false) (decide_eq_false (by omega)) (hK _ _ ?_)))
 unfold Stop
 try simp only [Act.put, zzC, zzD, zzE]
 go_wp2_with fail
 refine ((gSquare hZ3.nx ra 12 (hZ3.get 0 (f := Mi ma ca Ra ra) rfl) (by omega)).mono (fun _ _ h => by rw [decide_eq_false (fun h => hsq h.2)] at h; exact h)).mono ?_
 rintro zz W3 ⟨rfl, hB⟩
 have hZ4 := hZ3.later hB
 clear hB
 clear hZ3
 go_wp2_with (refine stop_opw (by kernel_rfl) (fun K hK => wp_lenq (.tmp 36) 25 39 slz rfl (by kernel_rfl) rfl (n := 0) rfl (hK _ _ ?_)))
 unfold Stop
 try simp only [Act.put, zzC, zzD, zzE]
 go_wp2_with (refine stop_opw (by kernel_rfl) (fun K hK => wp_eqli (.tmp 37) (.const (.int .i64 0)) 3 3 rfl rfl rfl rfl (r := true) (decide_eq_true rfl) (hK _ _ ?_)))
 unfold Stop
 try simp only [Act.put, zzC, zzD, zzE]
 go_wp2
 go_ret
 exact ⟨rfl, hZ4.below⟩
open Classical in
set_option maxRecDepth 100000 in
set_option maxHeartbeats 25600000 in
theorem lmk3 {X0 : Nat → Prop} {w : World} (hX : NX X0 w) (ra : Sl) (ma : Nat) (ca : Nat → Nat) (Ra : Nat → Nat → Int) (hra : Mi ma ca Ra ra X0 w) (rga0 : ∀ i j, i < ma → j < ca i → -9223372036854775808 ≤ Ra i j ∧ Ra i j ≤ 9223372036854775807) (ha : ma ≤ 12 ∧ (∀ k, k < ma → ca k = ma)) : Calls Tryd.prog 3 #[ra.v] w (PVal (.bool true) w) := by
 have rga := Lib.hid rga0
 clear rga0
 have ha12 : ma ≤ 12 := ha.1
 have hZ0 := zs_start hX
 have hZ1 := hZ0.more (f := Mi ma ca Ra ra) (Mi.stb _ _ _ _) hra
 clear hZ0
 go_enter Tryd.func3, Tryd.ntmps3
 go_wp2_with fail
 refine (gAwake hZ1.nx).mono ?_
 rintro zz W1 ⟨rfl, hB⟩
 have hZ2 := hZ1.later hB
 clear hB
 clear hZ1
 go_wp2_with fail
 refine ((lOf hZ2.nx ra (hZ2.get 0 (f := Mi ma ca Ra ra) rfl) (fun _ hck i j hi hj => rga.out i j hi (by rw [hck i hi]; exact hj))).mono (of_ok ha.1 ha.2)).mono ?_
 rintro zz W2 ⟨sa, rfl, hi_sa, hB⟩
 have hZ3 := hZ2.later hB
 clear hB
 clear hZ2
 have hZ4 := hZ3.more (f := Mt ma (fun _ => ma) Ra sa) (Mt.stb _ _ _ _) hi_sa
 clear hZ3
 clear hi_sa
 go_wp2_with (refine stop_op rfl (fun K hK => wp_lenq (.tmp 13) 22 36 ra rfl (by kernel_rfl) rfl (hZ4.get 1 (f := Mi ma ca Ra ra) rfl).n (hK _ _ ?_)))
 unfold Stop
 try simp only [Act.put, zzC, zzD, zzE]
 go_wp2_with (refine stop_op rfl (fun K hK => wp_gtri (.tmp 14) (.const (.int .i64 12)) rfl rfl rfl (r := false) (decide_eq_false (by omega)) (hK _ _ ?_)))
 unfold Stop
 try simp only [Act.put, zzC, zzD, zzE]
 go_wp2_with fail
 refine ((gSquare hZ4.nx ra 12 (hZ4.get 1 (f := Mi ma ca Ra ra) rfl) (by omega)).mono (fun _ _ h => by rw [decide_eq_true ha] at h; exact h)).mono ?_
 rintro zz W3 ⟨rfl, hB⟩
 have hZ5 := hZ4.later hB
 clear hB
 clear hZ4
 go_wp2_with fail
 refine (gWhole hZ5.nx sa (hZ5.get 0 (f := Mt ma (fun _ => ma) Ra sa) rfl) (fun i _ => by omega) (fun (i k : Nat) (hi : i < ma) (hk : k < ma) => sz_int (rga.out i k hi (by rw [ha.2 i hi]; exact hk)).1 (rga.out i k hi (by rw [ha.2 i hi]; exact hk)).2) (by omega) (by omega)).mono ?_
 rintro zz W4 ⟨rfl, hB⟩
 have hZ6 := hZ5.later hB
 clear hB
 clear hZ5
 go_wp2_with fail
 refine ((dOf hZ6.nx ra (hZ6.get 1 (f := Mi ma ca Ra ra) rfl) (by omega) (fun i hi => by rw [ha.2 i hi]; omega) rga.out).mono (pmxr_sq ha.2)).mono ?_
 rintro zz W5 ⟨sb, rfl, hi_sb, hB⟩
 have hZ7 := hZ6.later hB
 clear hB
 clear hZ6
 have hZ8 := hZ7.more (f := Mr ma (fun _ => ma) Ra sb) (Mr.stb _ _ _ _) hi_sb
 clear hZ7
 clear hi_sb
 go_wp2_with fail
 refine (gWholes hZ8.nx sb (hZ8.get 0 (f := Mr ma (fun _ => ma) Ra sb) rfl) (fun i _ => by omega) (fun (i k : Nat) (hi : i < ma) (hk : k < ma) => sz_int (rga.out i k hi (by rw [ha.2 i hi]; exact hk)).1 (rga.out i k hi (by rw [ha.2 i hi]; exact hk)).2) (by omega) (by omega)).mono ?_
 rintro zz W6 ⟨rfl, hB⟩
 have hZ9 := hZ8.later hB
 clear hB
 clear hZ8
 go_wp2_with (refine stop_opw (by kernel_rfl) (fun K hK => wp_seql (.tmp 47) (.tmp 50) 9 9 rfl rfl rfl rfl (r := true) (decide_eq_true rfl) (hK _ _ ?_)))
 unfold Stop
 try simp only [Act.put, zzC, zzD, zzE]
 go_wp2
 go_ret
 exact ⟨rfl, hZ9.below⟩
theorem lmkAny {X0 : Nat → Prop} {w : World} (hX : NX X0 w) (ra : Sl) (ma : Nat) (ca : Nat → Nat) (Ra : Nat → Nat → Int) (hra : Mi ma ca Ra ra X0 w) (rga0 : ∀ i j, i < ma → j < ca i → -9223372036854775808 ≤ Ra i j ∧ Ra i j ≤ 9223372036854775807)  : Calls Tryd.prog 3 #[ra.v] w (PVal (.bool true) w) := by
 by_cases hm : ma ≤ 12
 ·
  by_cases hsq : (∀ k, k < ma → ca k = ma)
  ·
   exact lmk3 hX ra ma ca Ra hra rga0 ⟨hm, hsq⟩
  ·
   exact lmk2 hX ra ma ca Ra hra rga0 hm hsq
 ·
  exact lmk1 hX ra ma ca Ra hra rga0 hm
end Go.Proofs.YtolpfibihialkaaDoor

/- The law LinDets of layer 7, walked. No statement of the seat is proved here. -/
namespace Go.Proofs.YtolpfibihialkaaDoor
open Go Go.RowKit
open Classical in
set_option maxRecDepth 100000 in
set_option maxHeartbeats 25600000 in
theorem ldt1 {X0 : Nat → Prop} {w : World} (hX : NX X0 w) (ra l : Sl) (ma kl : Nat) (ca : Nat → Nat) (Ra : Nat → Nat → Int) (xl_ : Nat → Int) (hra : Mi ma ca Ra ra X0 w) (hl_ : Li kl xl_ l X0 w) (rga0 : ∀ i j, i < ma → j < ca i → -9223372036854775808 ≤ Ra i j ∧ Ra i j ≤ 9223372036854775807) (rgl0 : ∀ i, i < kl → -9223372036854775808 ≤ xl_ i ∧ xl_ i ≤ 9223372036854775807) (ha : ¬ (ma ≤ 5 ∧ ∀ k, k < ma → ca k = ma)) : Calls Tryd.prog 4 #[ra.v, l.v] w (PVal (.bool true) w) := by
 have rga := Lib.hid rga0
 clear rga0
 have rgl := Lib.hid rgl0
 clear rgl0
 have hZ0 := zs_start hX
 have hZ1 := hZ0.more (f := Li kl xl_ l) (Li.stb _ _ _) hl_
 clear hZ0
 have hZ2 := hZ1.more (f := Mi ma ca Ra ra) (Mi.stb _ _ _ _) hra
 clear hZ1
 go_enter Tryd.func4, Tryd.ntmps4
 go_wp2_with fail
 refine (gAwake hZ2.nx).mono ?_
 rintro zz W1 ⟨rfl, hB⟩
 have hZ3 := hZ2.later hB
 clear hB
 clear hZ2
 go_wp2_with fail
 refine (gReadN hZ3.nx ra 5 (hZ3.get 0 (f := Mi ma ca Ra ra) rfl) (by omega) ha).mono ?_
 rintro zz W2 ⟨rfl, hB⟩
 have hZ4 := hZ3.later hB
 clear hB
 clear hZ3
 go_wp2
 go_ret
 exact ⟨rfl, hZ4.below⟩
open Classical in
set_option maxRecDepth 100000 in
set_option maxHeartbeats 25600000 in
theorem ldt2 {X0 : Nat → Prop} {w : World} (hX : NX X0 w) (ra l : Sl) (ma kl : Nat) (ca : Nat → Nat) (Ra : Nat → Nat → Int) (xl_ : Nat → Int) (hra : Mi ma ca Ra ra X0 w) (hl_ : Li kl xl_ l X0 w) (rga0 : ∀ i j, i < ma → j < ca i → -9223372036854775808 ≤ Ra i j ∧ Ra i j ≤ 9223372036854775807) (rgl0 : ∀ i, i < kl → -9223372036854775808 ≤ xl_ i ∧ xl_ i ≤ 9223372036854775807) (ha : (ma ≤ 5 ∧ ∀ k, k < ma → ca k = ma)) (hD : M.dt ma Ra = 0) : Calls Tryd.prog 4 #[ra.v, l.v] w (PVal (.bool true) w) := by
 have rga := Lib.hid rga0
 clear rga0
 have rgl := Lib.hid rgl0
 clear rgl0
 have HD := Lib.hid hD
 clear hD
 have ha5 : ma ≤ 5 := ha.1
 have hdb : dtb 2 ma ≤ 3000 := dtb_le (by omega) (by omega)
 have hZ0 := zs_start hX
 have hZ1 := hZ0.more (f := Li kl xl_ l) (Li.stb _ _ _) hl_
 clear hZ0
 have hZ2 := hZ1.more (f := Mi ma ca Ra ra) (Mi.stb _ _ _ _) hra
 clear hZ1
 go_enter Tryd.func4, Tryd.ntmps4
 go_wp2_with fail
 refine (gAwake hZ2.nx).mono ?_
 rintro zz W1 ⟨rfl, hB⟩
 have hZ3 := hZ2.later hB
 clear hB
 clear hZ2
 go_wp2_with fail
 refine (gReadY2 hZ3.nx ra 5 (hZ3.get 0 (f := Mi ma ca Ra ra) rfl) (by omega) ha.1 ha.2 rga.out).mono ?_
 rintro zz W2 ⟨s1, d1, rfl, hi_s1, hi_d1, hB⟩
 have hZ4 := hZ3.later hB
 clear hB
 clear hZ3
 have hZ5 := hZ4.more (f := Mt ma (fun _ => ma) Ra s1) (Mt.stb _ _ _ _) hi_s1
 clear hZ4
 clear hi_s1
 have hZ6 := hZ5.more (f := Mr ma (fun _ => ma) Ra d1) (Mr.stb _ _ _ _) hi_d1
 clear hZ5
 clear hi_d1
 go_wp2_with (refine stop_op rfl (fun K hK => wp_lenq (.tmp 30) 25 39 s1 rfl (by kernel_rfl) rfl (hZ6.get 1 (f := Mt ma (fun _ => ma) Ra s1) rfl).n (hK _ _ ?_)))
 unfold Stop
 try simp only [Act.put, zzC, zzD, zzE]
 go_wp2_with fail
 refine (gList2 hZ6.nx l ma (hZ6.get 3 (f := Li kl xl_ l) rfl) (by omega) rgl.out).mono ?_
 rintro zz W3 ⟨s2, d2, rfl, hi_s2, hi_d2, hB⟩
 have hZ7 := hZ6.later hB
 clear hB
 clear hZ6
 have hZ8 := hZ7.more (f := Ls ma (xl kl xl_) s2) (Ls.stb _ _ _) hi_s2
 clear hZ7
 clear hi_s2
 have hZ9 := hZ8.more (f := Lr ma (xl kl xl_) d2) (Lr.stb _ _ _) hi_d2
 clear hZ8
 clear hi_d2
 go_wp2_with fail
 refine (lDet hZ9.nx s1 (e := 2) (by omega) (by omega) (by omega) (hZ9.get 3 (f := Mt ma (fun _ => ma) Ra s1) rfl) (fun (i k : Nat) (hi : i < ma) (hk : k < ma) => sz_int (rga.out i k hi (by rw [ha.2 i hi]; exact hk)).1 (rga.out i k hi (by rw [ha.2 i hi]; exact hk)).2)).mono ?_
 rintro zz W4 ⟨q3, rfl, ez_q3, hi_q3, hB⟩
 have hZ10 := hZ9.later hB
 clear hB
 clear hZ9
 have hZ11 := hZ10.more (f := q3.is) q3.stb hi_q3
 clear hZ10
 clear hi_q3
 go_wp2_with fail
 refine ((zStr (hZ11.get 0 (f := q3.is) rfl) ez_q3 (dt_sz (fun (i k : Nat) (hi : i < ma) (hk : k < ma) => sz_int (rga.out i k hi (by rw [ha.2 i hi]; exact hk)).1 (rga.out i k hi (by rw [ha.2 i hi]; exact hk)).2)) (by omega)).mono (fun _ _ h => ptxt_dec h)).mono ?_
 rintro zz W5 ⟨rfl, hB⟩
 have hZ12 := hZ11.later hB
 clear hB
 clear hZ11
 go_wp2_with fail
 refine (lSolZ hZ12.nx s1 s2 (e := 2) (by omega) (by omega) (by omega) (hZ12.get 4 (f := Mt ma (fun _ => ma) Ra s1) rfl) (hZ12.get 2 (f := Ls ma (xl kl xl_) s2) rfl) (fun (i k : Nat) (hi : i < ma) (hk : k < ma) => sz_int (rga.out i k hi (by rw [ha.2 i hi]; exact hk)).1 (rga.out i k hi (by rw [ha.2 i hi]; exact hk)).2) (fun (i : Nat) (_ : i < ma) => xl_in rgl.out i) HD.out).mono ?_
 rintro zz W6 ⟨rfl, hB⟩
 have hZ13 := hZ12.later hB
 clear hB
 clear hZ12
 go_wp2_with (refine stopz_alloc 45 #[.bool false, .slice none 0 0] (.agg #[.bool false, .slice none 0 0]) rfl rfl zv45 rfl hZ13 (fun bk1 X14 W7 hZ14 => ?_))
 clear hZ13
 unfold Stop
 try simp only [Act.put, zzC, zzD, zzE]
 go_wp2_with (refine stopz_store 45 (.tmp 13) (.tmp 43) 0 bk1 0 #[.bool false, .slice none 0 0] 45 2 [.bool false, .slice none 0 0] #[.bool false, .slice none 0 0] [(bk1, #[.bool false, .slice none 0 0], 45)] rfl rfl rfl rfl sz45 hZ14 rfl rfl (zzF (by kernel_rfl)) (by kernel_rfl) (by kernel_rfl) (by kernel_rfl) (fun W8 hZ15 => ?_))
 clear hZ14
 unfold Stop
 try simp only [Act.put, zzC, zzD, zzE]
 go_wp2_with fail
 refine (dDet (e := 2) (by omega) (by omega) ma (by omega) _ _ hZ15.nx d1 _ (hZ15.get 3 (f := Mr ma (fun _ => ma) Ra d1) rfl) (fun (i k : Nat) (hi : i < ma) (hk : k < ma) => sz_int (rga.out i k hi (by rw [ha.2 i hi]; exact hk)).1 (rga.out i k hi (by rw [ha.2 i hi]; exact hk)).2)).mono ?_
 rintro zz W9 ⟨d4, rfl, ez_d4, hi_d4, hB⟩
 have hZ16 := hZ15.later hB
 clear hB
 clear hZ15
 have hZ17 := hZ16.more (f := d4.ir) d4.stbr hi_d4
 clear hZ16
 clear hi_d4
 go_wp2_with (refine stopz_alloc 52 #[.bool false, .slice none 0 0] (.agg #[.bool false, .slice none 0 0]) rfl rfl zv52 rfl hZ17 (fun bk2 X18 W10 hZ18 => ?_))
 clear hZ17
 unfold Stop
 try simp only [Act.put, zzC, zzD, zzE]
 go_wp2_with (refine stopz_store 52 (.tmp 15) (.tmp 46) 0 bk2 0 #[.bool false, .slice none 0 0] 52 2 [.bool d4.b, .slice d4.a d4.n d4.c] #[.bool d4.b, .slice d4.a d4.n d4.c] [(bk2, #[.bool d4.b, .slice d4.a d4.n d4.c], 52), (bk1, #[.bool false, .slice none 0 0], 45)] rfl rfl rfl rfl sz52 hZ18 rfl rfl (zzF (by kernel_rfl)) (by kernel_rfl) (by kernel_rfl) (by kernel_rfl) (fun W11 hZ19 => ?_))
 clear hZ18
 unfold Stop
 try simp only [Act.put, zzC, zzD, zzE]
 go_wp2_with (refine stop_op rfl (fun K hK => wp_load 52 (.tmp 15) rfl bk2 0 2 #[.bool d4.b, .slice d4.a d4.n d4.c] #[.bool d4.b, .slice d4.a d4.n d4.c] 52 (hZ19.es.at' _ (zzG (i := 0) rfl)) rfl ag52 sz52 (zzF (by kernel_rfl)) (by kernel_rfl) (hK _ _ ?_)))
 unfold Stop
 try simp only [Act.put, zzC, zzD, zzE]
 go_wp2_with fail
 refine ((zStrr (hZ19.get 0 (f := d4.ir) rfl) ez_d4 (dt_sz (fun (i k : Nat) (hi : i < ma) (hk : k < ma) => sz_int (rga.out i k hi (by rw [ha.2 i hi]; exact hk)).1 (rga.out i k hi (by rw [ha.2 i hi]; exact hk)).2)) (by omega)).mono (fun _ _ h => ptxt_dec h)).mono ?_
 rintro zz W12 ⟨rfl, hB⟩
 have hZ20 := hZ19.later hB
 clear hB
 clear hZ19
 go_wp2_with (refine stop_op rfl (fun K hK => wp_sneq (.tmp 47) (.tmp 49) 9 9 rfl rfl rfl rfl (r := false) (decide_eq_false (fun h => h rfl)) (hK _ _ ?_)))
 unfold Stop
 try simp only [Act.put, zzC, zzD, zzE]
 go_wp2_with (refine stop_op rfl (fun K hK => wp_load 52 (.tmp 15) rfl bk2 0 2 #[.bool d4.b, .slice d4.a d4.n d4.c] #[.bool d4.b, .slice d4.a d4.n d4.c] 52 (hZ20.es.at' _ (zzG (i := 0) rfl)) rfl ag52 sz52 (zzF (by kernel_rfl)) (by kernel_rfl) (hK _ _ ?_)))
 unfold Stop
 try simp only [Act.put, zzC, zzD, zzE]
 go_wp2_with fail
 refine (zSignr (hZ20.get 0 (f := d4.ir) rfl) ez_d4).mono ?_
 rintro zz W13 ⟨rfl, hB⟩
 have hZ21 := hZ20.later hB
 clear hB
 clear hZ20
 go_wp2_with (refine stop_op rfl (fun K hK => wp_eqli (.tmp 53) (.const (.int .i64 0)) 3 3 rfl rfl rfl rfl (r := true) (decide_eq_true (by rw [HD.out]; decide)) (hK _ _ ?_)))
 unfold Stop
 try simp only [Act.put, zzC, zzD, zzE]
 go_wp2_with (refine stop_opw (by kernel_rfl) (fun K hK => wp_lenq (.tmp 61) 39 45 slz rfl (by kernel_rfl) rfl (n := 0) rfl (hK _ _ ?_)))
 unfold Stop
 try simp only [Act.put, zzC, zzD, zzE]
 go_wp2_with (refine stop_opw (by kernel_rfl) (fun K hK => wp_eqli (.tmp 62) (.const (.int .i64 0)) 3 3 rfl rfl rfl rfl (r := true) (decide_eq_true rfl) (hK _ _ ?_)))
 unfold Stop
 try simp only [Act.put, zzC, zzD, zzE]
 go_wp2
 go_ret
 exact ⟨rfl, hZ21.below⟩
open Classical in
set_option maxRecDepth 100000 in
set_option maxHeartbeats 25600000 in
theorem ldt3 {X0 : Nat → Prop} {w : World} (hX : NX X0 w) (ra l : Sl) (ma kl : Nat) (ca : Nat → Nat) (Ra : Nat → Nat → Int) (xl_ : Nat → Int) (hra : Mi ma ca Ra ra X0 w) (hl_ : Li kl xl_ l X0 w) (rga0 : ∀ i j, i < ma → j < ca i → -9223372036854775808 ≤ Ra i j ∧ Ra i j ≤ 9223372036854775807) (rgl0 : ∀ i, i < kl → -9223372036854775808 ≤ xl_ i ∧ xl_ i ≤ 9223372036854775807) (ha : (ma ≤ 5 ∧ ∀ k, k < ma → ca k = ma)) (hD : M.dt ma Ra ≠ 0) : Calls Tryd.prog 4 #[ra.v, l.v] w (PVal (.bool true) w) := by
 have rga := Lib.hid rga0
 clear rga0
 have rgl := Lib.hid rgl0
 clear rgl0
 have HD := Lib.hid hD
 clear hD
 have ha5 : ma ≤ 5 := ha.1
 have hdb : dtb 2 ma ≤ 3000 := dtb_le (by omega) (by omega)
 have hZ0 := zs_start hX
 have hZ1 := hZ0.more (f := Li kl xl_ l) (Li.stb _ _ _) hl_
 clear hZ0
 have hZ2 := hZ1.more (f := Mi ma ca Ra ra) (Mi.stb _ _ _ _) hra
 clear hZ1
 go_enter Tryd.func4, Tryd.ntmps4
 go_wp2_with fail
 refine (gAwake hZ2.nx).mono ?_
 rintro zz W1 ⟨rfl, hB⟩
 have hZ3 := hZ2.later hB
 clear hB
 clear hZ2
 go_wp2_with fail
 refine (gReadY2 hZ3.nx ra 5 (hZ3.get 0 (f := Mi ma ca Ra ra) rfl) (by omega) ha.1 ha.2 rga.out).mono ?_
 rintro zz W2 ⟨s1, d1, rfl, hi_s1, hi_d1, hB⟩
 have hZ4 := hZ3.later hB
 clear hB
 clear hZ3
 have hZ5 := hZ4.more (f := Mt ma (fun _ => ma) Ra s1) (Mt.stb _ _ _ _) hi_s1
 clear hZ4
 clear hi_s1
 have hZ6 := hZ5.more (f := Mr ma (fun _ => ma) Ra d1) (Mr.stb _ _ _ _) hi_d1
 clear hZ5
 clear hi_d1
 go_wp2_with (refine stop_op rfl (fun K hK => wp_lenq (.tmp 30) 25 39 s1 rfl (by kernel_rfl) rfl (hZ6.get 1 (f := Mt ma (fun _ => ma) Ra s1) rfl).n (hK _ _ ?_)))
 unfold Stop
 try simp only [Act.put, zzC, zzD, zzE]
 go_wp2_with fail
 refine (gList2 hZ6.nx l ma (hZ6.get 3 (f := Li kl xl_ l) rfl) (by omega) rgl.out).mono ?_
 rintro zz W3 ⟨s2, d2, rfl, hi_s2, hi_d2, hB⟩
 have hZ7 := hZ6.later hB
 clear hB
 clear hZ6
 have hZ8 := hZ7.more (f := Ls ma (xl kl xl_) s2) (Ls.stb _ _ _) hi_s2
 clear hZ7
 clear hi_s2
 have hZ9 := hZ8.more (f := Lr ma (xl kl xl_) d2) (Lr.stb _ _ _) hi_d2
 clear hZ8
 clear hi_d2
 go_wp2_with fail
 refine (lDet hZ9.nx s1 (e := 2) (by omega) (by omega) (by omega) (hZ9.get 3 (f := Mt ma (fun _ => ma) Ra s1) rfl) (fun (i k : Nat) (hi : i < ma) (hk : k < ma) => sz_int (rga.out i k hi (by rw [ha.2 i hi]; exact hk)).1 (rga.out i k hi (by rw [ha.2 i hi]; exact hk)).2)).mono ?_
 rintro zz W4 ⟨q3, rfl, ez_q3, hi_q3, hB⟩
 have hZ10 := hZ9.later hB
 clear hB
 clear hZ9
 have hZ11 := hZ10.more (f := q3.is) q3.stb hi_q3
 clear hZ10
 clear hi_q3
 go_wp2_with fail
 refine ((zStr (hZ11.get 0 (f := q3.is) rfl) ez_q3 (dt_sz (fun (i k : Nat) (hi : i < ma) (hk : k < ma) => sz_int (rga.out i k hi (by rw [ha.2 i hi]; exact hk)).1 (rga.out i k hi (by rw [ha.2 i hi]; exact hk)).2)) (by omega)).mono (fun _ _ h => ptxt_dec h)).mono ?_
 rintro zz W5 ⟨rfl, hB⟩
 have hZ12 := hZ11.later hB
 clear hB
 clear hZ11
 go_wp2_with fail
 refine (lSolN hZ12.nx s1 s2 (e := 2) (by omega) (by omega) (by omega) (hZ12.get 4 (f := Mt ma (fun _ => ma) Ra s1) rfl) (hZ12.get 2 (f := Ls ma (xl kl xl_) s2) rfl) (fun (i k : Nat) (hi : i < ma) (hk : k < ma) => sz_int (rga.out i k hi (by rw [ha.2 i hi]; exact hk)).1 (rga.out i k hi (by rw [ha.2 i hi]; exact hk)).2) (fun (i : Nat) (_ : i < ma) => xl_in rgl.out i) HD.out).mono ?_
 rintro zz W6 ⟨sn, qd, rfl, hi_sn, ez_qd, hi_qd, hB⟩
 have hZ13 := hZ12.later hB
 clear hB
 clear hZ12
 have hZ14 := hZ13.more (f := Ls ma (crx ma Ra (xl kl xl_)) sn) (Ls.stb _ _ _) hi_sn
 clear hZ13
 clear hi_sn
 have hZ15 := hZ14.more (f := qd.is) qd.stb hi_qd
 clear hZ14
 clear hi_qd
 go_wp2_with (refine stopz_alloc 45 #[.bool false, .slice none 0 0] (.agg #[.bool false, .slice none 0 0]) rfl rfl zv45 rfl hZ15 (fun bk1 X16 W7 hZ16 => ?_))
 clear hZ15
 unfold Stop
 try simp only [Act.put, zzC, zzD, zzE]
 go_wp2_with (refine stopz_store 45 (.tmp 13) (.tmp 43) 0 bk1 0 #[.bool false, .slice none 0 0] 45 2 [.bool qd.b, .slice qd.a qd.n qd.c] #[.bool qd.b, .slice qd.a qd.n qd.c] [(bk1, #[.bool qd.b, .slice qd.a qd.n qd.c], 45)] rfl rfl rfl rfl sz45 hZ16 rfl rfl (zzF (by kernel_rfl)) (by kernel_rfl) (by kernel_rfl) (by kernel_rfl) (fun W8 hZ17 => ?_))
 clear hZ16
 unfold Stop
 try simp only [Act.put, zzC, zzD, zzE]
 go_wp2_with fail
 refine (dDet (e := 2) (by omega) (by omega) ma (by omega) _ _ hZ17.nx d1 _ (hZ17.get 5 (f := Mr ma (fun _ => ma) Ra d1) rfl) (fun (i k : Nat) (hi : i < ma) (hk : k < ma) => sz_int (rga.out i k hi (by rw [ha.2 i hi]; exact hk)).1 (rga.out i k hi (by rw [ha.2 i hi]; exact hk)).2)).mono ?_
 rintro zz W9 ⟨d4, rfl, ez_d4, hi_d4, hB⟩
 have hZ18 := hZ17.later hB
 clear hB
 clear hZ17
 have hZ19 := hZ18.more (f := d4.ir) d4.stbr hi_d4
 clear hZ18
 clear hi_d4
 go_wp2_with (refine stopz_alloc 52 #[.bool false, .slice none 0 0] (.agg #[.bool false, .slice none 0 0]) rfl rfl zv52 rfl hZ19 (fun bk2 X20 W10 hZ20 => ?_))
 clear hZ19
 unfold Stop
 try simp only [Act.put, zzC, zzD, zzE]
 go_wp2_with (refine stopz_store 52 (.tmp 15) (.tmp 46) 0 bk2 0 #[.bool false, .slice none 0 0] 52 2 [.bool d4.b, .slice d4.a d4.n d4.c] #[.bool d4.b, .slice d4.a d4.n d4.c] [(bk2, #[.bool d4.b, .slice d4.a d4.n d4.c], 52), (bk1, #[.bool qd.b, .slice qd.a qd.n qd.c], 45)] rfl rfl rfl rfl sz52 hZ20 rfl rfl (zzF (by kernel_rfl)) (by kernel_rfl) (by kernel_rfl) (by kernel_rfl) (fun W11 hZ21 => ?_))
 clear hZ20
 unfold Stop
 try simp only [Act.put, zzC, zzD, zzE]
 go_wp2_with (refine stop_op rfl (fun K hK => wp_load 52 (.tmp 15) rfl bk2 0 2 #[.bool d4.b, .slice d4.a d4.n d4.c] #[.bool d4.b, .slice d4.a d4.n d4.c] 52 (hZ21.es.at' _ (zzG (i := 0) rfl)) rfl ag52 sz52 (zzF (by kernel_rfl)) (by kernel_rfl) (hK _ _ ?_)))
 unfold Stop
 try simp only [Act.put, zzC, zzD, zzE]
 go_wp2_with fail
 refine ((zStrr (hZ21.get 0 (f := d4.ir) rfl) ez_d4 (dt_sz (fun (i k : Nat) (hi : i < ma) (hk : k < ma) => sz_int (rga.out i k hi (by rw [ha.2 i hi]; exact hk)).1 (rga.out i k hi (by rw [ha.2 i hi]; exact hk)).2)) (by omega)).mono (fun _ _ h => ptxt_dec h)).mono ?_
 rintro zz W12 ⟨rfl, hB⟩
 have hZ22 := hZ21.later hB
 clear hB
 clear hZ21
 go_wp2_with (refine stop_op rfl (fun K hK => wp_sneq (.tmp 47) (.tmp 49) 9 9 rfl rfl rfl rfl (r := false) (decide_eq_false (fun h => h rfl)) (hK _ _ ?_)))
 unfold Stop
 try simp only [Act.put, zzC, zzD, zzE]
 go_wp2_with (refine stop_op rfl (fun K hK => wp_load 52 (.tmp 15) rfl bk2 0 2 #[.bool d4.b, .slice d4.a d4.n d4.c] #[.bool d4.b, .slice d4.a d4.n d4.c] 52 (hZ22.es.at' _ (zzG (i := 0) rfl)) rfl ag52 sz52 (zzF (by kernel_rfl)) (by kernel_rfl) (hK _ _ ?_)))
 unfold Stop
 try simp only [Act.put, zzC, zzD, zzE]
 go_wp2_with fail
 refine (zSignr (hZ22.get 0 (f := d4.ir) rfl) ez_d4).mono ?_
 rintro zz W13 ⟨rfl, hB⟩
 have hZ23 := hZ22.later hB
 clear hB
 clear hZ22
 go_wp2_with (refine stop_op rfl (fun K hK => wp_eqli (.tmp 53) (.const (.int .i64 0)) 3 3 rfl rfl rfl rfl (r := false) (decide_eq_false (by show sgnI _ ≠ 0; rw [sgnI_ne]; exact HD.out)) (hK _ _ ?_)))
 unfold Stop
 try simp only [Act.put, zzC, zzD, zzE]
 go_wp2_with (refine stop_op rfl (fun K hK => wp_load 45 (.tmp 13) rfl bk1 0 2 #[.bool qd.b, .slice qd.a qd.n qd.c] #[.bool qd.b, .slice qd.a qd.n qd.c] 45 (hZ23.es.at' _ (zzG (i := 1) rfl)) rfl ag45 sz45 (zzF (by kernel_rfl)) (by kernel_rfl) (hK _ _ ?_)))
 unfold Stop
 try simp only [Act.put, zzC, zzD, zzE]
 go_wp2_with fail
 refine ((zStr (hZ23.get 1 (f := qd.is) rfl) ez_qd (dt_sz (fun (i k : Nat) (hi : i < ma) (hk : k < ma) => sz_int (rga.out i k hi (by rw [ha.2 i hi]; exact hk)).1 (rga.out i k hi (by rw [ha.2 i hi]; exact hk)).2)) (by omega)).mono (fun _ _ h => ptxt_dec h)).mono ?_
 rintro zz W14 ⟨rfl, hB⟩
 have hZ24 := hZ23.later hB
 clear hB
 clear hZ23
 go_wp2_with (refine stop_opw (by kernel_rfl) (fun K hK => wp_seql (.tmp 73) (.tmp 74) 9 9 rfl rfl rfl rfl (r := true) (decide_eq_true rfl) (hK _ _ ?_)))
 unfold Stop
 try simp only [Act.put, zzC, zzD, zzE]
 go_wp2_with fail
 refine (gText hZ24.nx sn (hZ24.get 2 (f := Ls ma (crx ma Ra (xl kl xl_)) sn) rfl) (fun (j : Nat) (_ : j < ma) => crx_sz (fun (i k : Nat) (hi : i < ma) (hk : k < ma) => sz_int (rga.out i k hi (by rw [ha.2 i hi]; exact hk)).1 (rga.out i k hi (by rw [ha.2 i hi]; exact hk)).2) (fun (i : Nat) (_ : i < ma) => xl_in rgl.out i) j) (by omega) (by omega)).mono ?_
 rintro zz W15 ⟨rfl, hB⟩
 have hZ25 := hZ24.later hB
 clear hB
 clear hZ24
 go_wp2_with fail
 refine (dSolve hZ25.nx d1 d2 (e := 2) (by omega) (by omega) (by omega) (hZ25.get 6 (f := Mr ma (fun _ => ma) Ra d1) rfl) (hZ25.get 4 (f := Lr ma (xl kl xl_) d2) rfl) (fun (i k : Nat) (hi : i < ma) (hk : k < ma) => sz_int (rga.out i k hi (by rw [ha.2 i hi]; exact hk)).1 (rga.out i k hi (by rw [ha.2 i hi]; exact hk)).2) (fun (i : Nat) (_ : i < ma) => xl_in rgl.out i)).mono ?_
 rintro zz W16 ⟨sd, rfl, hi_sd, hB⟩
 have hZ26 := hZ25.later hB
 clear hB
 clear hZ25
 have hZ27 := hZ26.more (f := Lr ma (crx ma Ra (xl kl xl_)) sd) (Lr.stb _ _ _) hi_sd
 clear hZ26
 clear hi_sd
 go_wp2_with fail
 refine (gTexts hZ27.nx sd (hZ27.get 0 (f := Lr ma (crx ma Ra (xl kl xl_)) sd) rfl) (fun (j : Nat) (_ : j < ma) => crx_sz (fun (i k : Nat) (hi : i < ma) (hk : k < ma) => sz_int (rga.out i k hi (by rw [ha.2 i hi]; exact hk)).1 (rga.out i k hi (by rw [ha.2 i hi]; exact hk)).2) (fun (i : Nat) (_ : i < ma) => xl_in rgl.out i) j) (by omega) (by omega)).mono ?_
 rintro zz W17 ⟨rfl, hB⟩
 have hZ28 := hZ27.later hB
 clear hB
 clear hZ27
 go_wp2_with (refine stop_opw (by kernel_rfl) (fun K hK => wp_seql (.tmp 79) (.tmp 83) 9 9 rfl rfl rfl rfl (r := true) (decide_eq_true rfl) (hK _ _ ?_)))
 unfold Stop
 try simp only [Act.put, zzC, zzD, zzE]
 go_wp2
 go_ret
 exact ⟨rfl, hZ28.below⟩
theorem ldtAny {X0 : Nat → Prop} {w : World} (hX : NX X0 w) (ra l : Sl) (ma kl : Nat) (ca : Nat → Nat) (Ra : Nat → Nat → Int) (xl_ : Nat → Int) (hra : Mi ma ca Ra ra X0 w) (hl_ : Li kl xl_ l X0 w) (rga0 : ∀ i j, i < ma → j < ca i → -9223372036854775808 ≤ Ra i j ∧ Ra i j ≤ 9223372036854775807) (rgl0 : ∀ i, i < kl → -9223372036854775808 ≤ xl_ i ∧ xl_ i ≤ 9223372036854775807)  : Calls Tryd.prog 4 #[ra.v, l.v] w (PVal (.bool true) w) := by
 by_cases ha : (ma ≤ 5 ∧ ∀ k, k < ma → ca k = ma)
 ·
  by_cases hD : M.dt ma Ra = 0
  ·
   exact ldt2 hX ra l ma kl ca Ra xl_ hra hl_ rga0 rgl0 ha hD
  ·
   exact ldt3 hX ra l ma kl ca Ra xl_ hra hl_ rga0 rgl0 ha hD
 ·
  exact ldt1 hX ra l ma kl ca Ra xl_ hra hl_ rga0 rgl0 ha
end Go.Proofs.YtolpfibihialkaaDoor
