/- Parts of the proof. -/
import Derived.Test.YtjclllindbfmhaaGreatDoorHt0
import Derived.Test.YtjclllindbfmhaaGreatDoorHt37
import Derived.Test.YtjclllindbfmhaaGreatDoorHt39
/- The law QuadTwice of layer 8, walked. No statement of the seat is proved here. -/
namespace Go.Proofs.YtjclllindbfmhaaGreatDoor
open Go Go.RowKit
open Classical in
set_option maxRecDepth 100000 in
set_option maxHeartbeats 25600000 in
theorem ult1 {X0 : Nat → Prop} {w : World} (hX : NX X0 w) (ra qa la : Sl) (m kx kl : Nat) (c : Nat → Nat) (R : Nat → Nat → Int) (x : Nat → Int) (cc : Int) (xl_ : Nat → Int) (hra : Mi m c R ra X0 w) (hqa : Li kx x qa X0 w) (hla : Li kl xl_ la X0 w) (rgR0 : ∀ i j, i < m → j < c i → -9223372036854775808 ≤ R i j ∧ R i j ≤ 9223372036854775807) (rgx0 : ∀ i, i < kx → -9223372036854775808 ≤ x i ∧ x i ≤ 9223372036854775807) (hcc : -9223372036854775808 ≤ cc ∧ cc ≤ 9223372036854775807) (rgl0 : ∀ i, i < kl → -9223372036854775808 ≤ xl_ i ∧ xl_ i ≤ 9223372036854775807) (n : Nat) (mm nn : Int) (hnm : n ≤ m) (hmin : (((m : Nat) : Int) ≤ ((6 : Nat) : Int) ∧ ((n : Nat) : Int) = ((m : Nat) : Int)) ∨ (((6 : Nat) : Int) < ((m : Nat) : Int) ∧ ((n : Nat) : Int) = ((6 : Nat) : Int))) (hnu : n ≤ 6) (h : mm < 0) : Calls Tryz.prog 8 #[ra.v, qa.v, .int .i64 cc, la.v, .int .i64 mm, .int .i64 nn] w (PVal (.bool true) w) := by
 have rgR := Lib.hid rgR0
 clear rgR0
 have rgx := Lib.hid rgx0
 clear rgx0
 have rgl := Lib.hid rgl0
 clear rgl0
 have BPm : ∀ i j, i < n → j < n → Sz 2 (mir c R i j) := (fun (i j : Nat) hi hj => sz_int (mir_in rgR.out (Nat.lt_of_lt_of_le hi hnm) (Nat.lt_of_lt_of_le hj hnm)).1 (mir_in rgR.out (Nat.lt_of_lt_of_le hi hnm) (Nat.lt_of_lt_of_le hj hnm)).2)
 have BQm : ∀ i, i < n → Sz 2 (xl kx x i) := fun i _ => xl_in rgx.out i
 have BCm : Sz 2 cc := sz_int hcc.1 hcc.2
 have BXm : ∀ i, Sz 2 (xl kl xl_ i) := fun i => xl_in rgl.out i
 have hZ0 := zs_start hX
 have hZ1 := hZ0.more (f := Li kl xl_ la) (Li.stb _ _ _) hla
 clear hZ0
 have hZ2 := hZ1.more (f := Li kx x qa) (Li.stb _ _ _) hqa
 clear hZ1
 have hZ3 := hZ2.more (f := Mi m c R ra) (Mi.stb _ _ _ _) hra
 clear hZ2
 go_enter Tryz.func8, Tryz.ntmps8
 go_wp2_with fail
 refine (uAwake hZ3.nx).mono ?_
 rintro zz W1 ⟨rfl, hB⟩
 have hZ4 := hZ3.later hB
 clear hB
 clear hZ3
 go_wp2_with fail
 refine (uRead hZ4.nx ra qa 6 n (hZ4.get 0 (f := Mi m c R ra) rfl) (hZ4.get 1 (f := Li kx x qa) rfl) rgR.out rgx.out hcc (by omega) hnm hmin).mono ?_
 rintro zz W2 ⟨pf, sf, cf, pd, sd, cd, rfl, hi_pf, hi_sf, ez_cf, hi_cf, hi_pd, hi_sd, ez_cd, hi_cd, hB⟩
 have hZ5 := hZ4.later hB
 clear hB
 clear hZ4
 have hZ6 := hZ5.more (f := Mt n (fun _ => n) (mir c R) pf) (Mt.stb _ _ _ _) hi_pf
 clear hZ5
 clear hi_pf
 have hZ7 := hZ6.more (f := Ls n (xl kx x) sf) (Ls.stb _ _ _) hi_sf
 clear hZ6
 clear hi_sf
 have hZ8 := hZ7.more (f := cf.is) cf.stb hi_cf
 clear hZ7
 clear hi_cf
 have hZ9 := hZ8.more (f := Mr n (fun _ => n) (mir c R) pd) (Mr.stb _ _ _ _) hi_pd
 clear hZ8
 clear hi_pd
 have hZ10 := hZ9.more (f := Lr n (xl kx x) sd) (Lr.stb _ _ _) hi_sd
 clear hZ9
 clear hi_sd
 have hZ11 := hZ10.more (f := cd.ir) cd.stbr hi_cd
 clear hZ10
 clear hi_cd
 go_wp2_with (refine stopz_alloc 32 #[.slice none 0 0, .slice none 0 0, .bool false, .slice none 0 0] (.agg #[.slice none 0 0, .slice none 0 0, .bool false, .slice none 0 0]) rfl rfl zv32 rfl hZ11 (fun bk1 X12 W3 hZ12 => ?_))
 clear hZ11
 unfold Stop
 try simp only [Act.put, zzC, zzD, zzE]
 go_wp2_with (refine stopz_alloc 45 #[.slice none 0 0, .slice none 0 0, .bool false, .slice none 0 0] (.agg #[.slice none 0 0, .slice none 0 0, .bool false, .slice none 0 0]) rfl rfl zv45 rfl hZ12 (fun bk2 X13 W4 hZ13 => ?_))
 clear hZ12
 unfold Stop
 try simp only [Act.put, zzC, zzD, zzE]
 go_wp2_with (refine stopz_store 32 (.tmp 14) (.tmp 37) 1 bk1 0 #[.slice none 0 0, .slice none 0 0, .bool false, .slice none 0 0] 32 4 [pf.v, sf.v, .bool cf.b, .slice cf.a cf.n cf.c] #[pf.v, sf.v, .bool cf.b, .slice cf.a cf.n cf.c] [(bk2, #[.slice none 0 0, .slice none 0 0, .bool false, .slice none 0 0], 45), (bk1, #[pf.v, sf.v, .bool cf.b, .slice cf.a cf.n cf.c], 32)] rfl rfl rfl rfl sz32 hZ13 rfl rfl (zzF (by kernel_rfl)) (by kernel_rfl) (by kernel_rfl) (by kernel_rfl) (fun W5 hZ14 => ?_))
 clear hZ13
 unfold Stop
 try simp only [Act.put, zzC, zzD, zzE]
 go_wp2_with (refine stopz_store 45 (.tmp 15) (.tmp 38) 0 bk2 0 #[.slice none 0 0, .slice none 0 0, .bool false, .slice none 0 0] 45 4 [pd.v, sd.v, .bool cd.b, .slice cd.a cd.n cd.c] #[pd.v, sd.v, .bool cd.b, .slice cd.a cd.n cd.c] [(bk2, #[pd.v, sd.v, .bool cd.b, .slice cd.a cd.n cd.c], 45), (bk1, #[pf.v, sf.v, .bool cf.b, .slice cf.a cf.n cf.c], 32)] rfl rfl rfl rfl sz45 hZ14 rfl rfl (zzF (by kernel_rfl)) (by kernel_rfl) (by kernel_rfl) (by kernel_rfl) (fun W6 hZ15 => ?_))
 clear hZ14
 unfold Stop
 try simp only [Act.put, zzC, zzD, zzE]
 go_wp2_with (refine stop_opw (by kernel_rfl) (fun K hK => wp_lssi (.tmp 43) (.const (.int .i64 0)) rfl rfl rfl (r := true) (decide_eq_true (by omega)) (hK _ _ ?_)))
 unfold Stop
 try simp only [Act.put, zzC, zzD, zzE]
 go_wp2
 go_ret
 exact ⟨rfl, hZ15.below⟩
open Classical in
set_option maxRecDepth 100000 in
set_option maxHeartbeats 25600000 in
theorem ult2 {X0 : Nat → Prop} {w : World} (hX : NX X0 w) (ra qa la : Sl) (m kx kl : Nat) (c : Nat → Nat) (R : Nat → Nat → Int) (x : Nat → Int) (cc : Int) (xl_ : Nat → Int) (hra : Mi m c R ra X0 w) (hqa : Li kx x qa X0 w) (hla : Li kl xl_ la X0 w) (rgR0 : ∀ i j, i < m → j < c i → -9223372036854775808 ≤ R i j ∧ R i j ≤ 9223372036854775807) (rgx0 : ∀ i, i < kx → -9223372036854775808 ≤ x i ∧ x i ≤ 9223372036854775807) (hcc : -9223372036854775808 ≤ cc ∧ cc ≤ 9223372036854775807) (rgl0 : ∀ i, i < kl → -9223372036854775808 ≤ xl_ i ∧ xl_ i ≤ 9223372036854775807) (n : Nat) (mm nn : Int) (hnm : n ≤ m) (hmin : (((m : Nat) : Int) ≤ ((6 : Nat) : Int) ∧ ((n : Nat) : Int) = ((m : Nat) : Int)) ∨ (((6 : Nat) : Int) < ((m : Nat) : Int) ∧ ((n : Nat) : Int) = ((6 : Nat) : Int))) (hnu : n ≤ 6) (h0 : 0 ≤ mm) (h : nn < 0) : Calls Tryz.prog 8 #[ra.v, qa.v, .int .i64 cc, la.v, .int .i64 mm, .int .i64 nn] w (PVal (.bool true) w) := by
 have rgR := Lib.hid rgR0
 clear rgR0
 have rgx := Lib.hid rgx0
 clear rgx0
 have rgl := Lib.hid rgl0
 clear rgl0
 have BPm : ∀ i j, i < n → j < n → Sz 2 (mir c R i j) := (fun (i j : Nat) hi hj => sz_int (mir_in rgR.out (Nat.lt_of_lt_of_le hi hnm) (Nat.lt_of_lt_of_le hj hnm)).1 (mir_in rgR.out (Nat.lt_of_lt_of_le hi hnm) (Nat.lt_of_lt_of_le hj hnm)).2)
 have BQm : ∀ i, i < n → Sz 2 (xl kx x i) := fun i _ => xl_in rgx.out i
 have BCm : Sz 2 cc := sz_int hcc.1 hcc.2
 have BXm : ∀ i, Sz 2 (xl kl xl_ i) := fun i => xl_in rgl.out i
 have hZ0 := zs_start hX
 have hZ1 := hZ0.more (f := Li kl xl_ la) (Li.stb _ _ _) hla
 clear hZ0
 have hZ2 := hZ1.more (f := Li kx x qa) (Li.stb _ _ _) hqa
 clear hZ1
 have hZ3 := hZ2.more (f := Mi m c R ra) (Mi.stb _ _ _ _) hra
 clear hZ2
 go_enter Tryz.func8, Tryz.ntmps8
 go_wp2_with fail
 refine (uAwake hZ3.nx).mono ?_
 rintro zz W1 ⟨rfl, hB⟩
 have hZ4 := hZ3.later hB
 clear hB
 clear hZ3
 go_wp2_with fail
 refine (uRead hZ4.nx ra qa 6 n (hZ4.get 0 (f := Mi m c R ra) rfl) (hZ4.get 1 (f := Li kx x qa) rfl) rgR.out rgx.out hcc (by omega) hnm hmin).mono ?_
 rintro zz W2 ⟨pf, sf, cf, pd, sd, cd, rfl, hi_pf, hi_sf, ez_cf, hi_cf, hi_pd, hi_sd, ez_cd, hi_cd, hB⟩
 have hZ5 := hZ4.later hB
 clear hB
 clear hZ4
 have hZ6 := hZ5.more (f := Mt n (fun _ => n) (mir c R) pf) (Mt.stb _ _ _ _) hi_pf
 clear hZ5
 clear hi_pf
 have hZ7 := hZ6.more (f := Ls n (xl kx x) sf) (Ls.stb _ _ _) hi_sf
 clear hZ6
 clear hi_sf
 have hZ8 := hZ7.more (f := cf.is) cf.stb hi_cf
 clear hZ7
 clear hi_cf
 have hZ9 := hZ8.more (f := Mr n (fun _ => n) (mir c R) pd) (Mr.stb _ _ _ _) hi_pd
 clear hZ8
 clear hi_pd
 have hZ10 := hZ9.more (f := Lr n (xl kx x) sd) (Lr.stb _ _ _) hi_sd
 clear hZ9
 clear hi_sd
 have hZ11 := hZ10.more (f := cd.ir) cd.stbr hi_cd
 clear hZ10
 clear hi_cd
 go_wp2_with (refine stopz_alloc 32 #[.slice none 0 0, .slice none 0 0, .bool false, .slice none 0 0] (.agg #[.slice none 0 0, .slice none 0 0, .bool false, .slice none 0 0]) rfl rfl zv32 rfl hZ11 (fun bk1 X12 W3 hZ12 => ?_))
 clear hZ11
 unfold Stop
 try simp only [Act.put, zzC, zzD, zzE]
 go_wp2_with (refine stopz_alloc 45 #[.slice none 0 0, .slice none 0 0, .bool false, .slice none 0 0] (.agg #[.slice none 0 0, .slice none 0 0, .bool false, .slice none 0 0]) rfl rfl zv45 rfl hZ12 (fun bk2 X13 W4 hZ13 => ?_))
 clear hZ12
 unfold Stop
 try simp only [Act.put, zzC, zzD, zzE]
 go_wp2_with (refine stopz_store 32 (.tmp 14) (.tmp 37) 1 bk1 0 #[.slice none 0 0, .slice none 0 0, .bool false, .slice none 0 0] 32 4 [pf.v, sf.v, .bool cf.b, .slice cf.a cf.n cf.c] #[pf.v, sf.v, .bool cf.b, .slice cf.a cf.n cf.c] [(bk2, #[.slice none 0 0, .slice none 0 0, .bool false, .slice none 0 0], 45), (bk1, #[pf.v, sf.v, .bool cf.b, .slice cf.a cf.n cf.c], 32)] rfl rfl rfl rfl sz32 hZ13 rfl rfl (zzF (by kernel_rfl)) (by kernel_rfl) (by kernel_rfl) (by kernel_rfl) (fun W5 hZ14 => ?_))
 clear hZ13
 unfold Stop
 try simp only [Act.put, zzC, zzD, zzE]
 go_wp2_with (refine stopz_store 45 (.tmp 15) (.tmp 38) 0 bk2 0 #[.slice none 0 0, .slice none 0 0, .bool false, .slice none 0 0] 45 4 [pd.v, sd.v, .bool cd.b, .slice cd.a cd.n cd.c] #[pd.v, sd.v, .bool cd.b, .slice cd.a cd.n cd.c] [(bk2, #[pd.v, sd.v, .bool cd.b, .slice cd.a cd.n cd.c], 45), (bk1, #[pf.v, sf.v, .bool cf.b, .slice cf.a cf.n cf.c], 32)] rfl rfl rfl rfl sz45 hZ14 rfl rfl (zzF (by kernel_rfl)) (by kernel_rfl) (by kernel_rfl) (by kernel_rfl) (fun W6 hZ15 => ?_))
 clear hZ14
 unfold Stop
 try simp only [Act.put, zzC, zzD, zzE]
 go_wp2_with (refine stop_opw (by kernel_rfl) (fun K hK => wp_lssi (.tmp 43) (.const (.int .i64 0)) rfl rfl rfl (r := false) (decide_eq_false (by omega)) (hK _ _ ?_)))
 unfold Stop
 try simp only [Act.put, zzC, zzD, zzE]
 go_wp2_with (refine stop_opw (by kernel_rfl) (fun K hK => wp_lssi (.tmp 47) (.const (.int .i64 0)) rfl rfl rfl (r := true) (decide_eq_true (by omega)) (hK _ _ ?_)))
 unfold Stop
 try simp only [Act.put, zzC, zzD, zzE]
 go_wp2
 go_ret
 exact ⟨rfl, hZ15.below⟩
open Classical in
set_option maxRecDepth 100000 in
set_option maxHeartbeats 25600000 in
theorem ult3 {X0 : Nat → Prop} {w : World} (hX : NX X0 w) (ra qa la : Sl) (m kx kl : Nat) (c : Nat → Nat) (R : Nat → Nat → Int) (x : Nat → Int) (cc : Int) (xl_ : Nat → Int) (hra : Mi m c R ra X0 w) (hqa : Li kx x qa X0 w) (hla : Li kl xl_ la X0 w) (rgR0 : ∀ i j, i < m → j < c i → -9223372036854775808 ≤ R i j ∧ R i j ≤ 9223372036854775807) (rgx0 : ∀ i, i < kx → -9223372036854775808 ≤ x i ∧ x i ≤ 9223372036854775807) (hcc : -9223372036854775808 ≤ cc ∧ cc ≤ 9223372036854775807) (rgl0 : ∀ i, i < kl → -9223372036854775808 ≤ xl_ i ∧ xl_ i ≤ 9223372036854775807) (n : Nat) (mm nn : Int) (hnm : n ≤ m) (hmin : (((m : Nat) : Int) ≤ ((6 : Nat) : Int) ∧ ((n : Nat) : Int) = ((m : Nat) : Int)) ∨ (((6 : Nat) : Int) < ((m : Nat) : Int) ∧ ((n : Nat) : Int) = ((6 : Nat) : Int))) (hnu : n ≤ 6) (h0 : 0 ≤ mm) (h1 : 0 ≤ nn) (h : (n : Int) < mm) : Calls Tryz.prog 8 #[ra.v, qa.v, .int .i64 cc, la.v, .int .i64 mm, .int .i64 nn] w (PVal (.bool true) w) := by
 have rgR := Lib.hid rgR0
 clear rgR0
 have rgx := Lib.hid rgx0
 clear rgx0
 have rgl := Lib.hid rgl0
 clear rgl0
 have BPm : ∀ i j, i < n → j < n → Sz 2 (mir c R i j) := (fun (i j : Nat) hi hj => sz_int (mir_in rgR.out (Nat.lt_of_lt_of_le hi hnm) (Nat.lt_of_lt_of_le hj hnm)).1 (mir_in rgR.out (Nat.lt_of_lt_of_le hi hnm) (Nat.lt_of_lt_of_le hj hnm)).2)
 have BQm : ∀ i, i < n → Sz 2 (xl kx x i) := fun i _ => xl_in rgx.out i
 have BCm : Sz 2 cc := sz_int hcc.1 hcc.2
 have BXm : ∀ i, Sz 2 (xl kl xl_ i) := fun i => xl_in rgl.out i
 have hZ0 := zs_start hX
 have hZ1 := hZ0.more (f := Li kl xl_ la) (Li.stb _ _ _) hla
 clear hZ0
 have hZ2 := hZ1.more (f := Li kx x qa) (Li.stb _ _ _) hqa
 clear hZ1
 have hZ3 := hZ2.more (f := Mi m c R ra) (Mi.stb _ _ _ _) hra
 clear hZ2
 go_enter Tryz.func8, Tryz.ntmps8
 go_wp2_with fail
 refine (uAwake hZ3.nx).mono ?_
 rintro zz W1 ⟨rfl, hB⟩
 have hZ4 := hZ3.later hB
 clear hB
 clear hZ3
 go_wp2_with fail
 refine (uRead hZ4.nx ra qa 6 n (hZ4.get 0 (f := Mi m c R ra) rfl) (hZ4.get 1 (f := Li kx x qa) rfl) rgR.out rgx.out hcc (by omega) hnm hmin).mono ?_
 rintro zz W2 ⟨pf, sf, cf, pd, sd, cd, rfl, hi_pf, hi_sf, ez_cf, hi_cf, hi_pd, hi_sd, ez_cd, hi_cd, hB⟩
 have hZ5 := hZ4.later hB
 clear hB
 clear hZ4
 have hZ6 := hZ5.more (f := Mt n (fun _ => n) (mir c R) pf) (Mt.stb _ _ _ _) hi_pf
 clear hZ5
 clear hi_pf
 have hZ7 := hZ6.more (f := Ls n (xl kx x) sf) (Ls.stb _ _ _) hi_sf
 clear hZ6
 clear hi_sf
 have hZ8 := hZ7.more (f := cf.is) cf.stb hi_cf
 clear hZ7
 clear hi_cf
 have hZ9 := hZ8.more (f := Mr n (fun _ => n) (mir c R) pd) (Mr.stb _ _ _ _) hi_pd
 clear hZ8
 clear hi_pd
 have hZ10 := hZ9.more (f := Lr n (xl kx x) sd) (Lr.stb _ _ _) hi_sd
 clear hZ9
 clear hi_sd
 have hZ11 := hZ10.more (f := cd.ir) cd.stbr hi_cd
 clear hZ10
 clear hi_cd
 go_wp2_with (refine stopz_alloc 32 #[.slice none 0 0, .slice none 0 0, .bool false, .slice none 0 0] (.agg #[.slice none 0 0, .slice none 0 0, .bool false, .slice none 0 0]) rfl rfl zv32 rfl hZ11 (fun bk1 X12 W3 hZ12 => ?_))
 clear hZ11
 unfold Stop
 try simp only [Act.put, zzC, zzD, zzE]
 go_wp2_with (refine stopz_alloc 45 #[.slice none 0 0, .slice none 0 0, .bool false, .slice none 0 0] (.agg #[.slice none 0 0, .slice none 0 0, .bool false, .slice none 0 0]) rfl rfl zv45 rfl hZ12 (fun bk2 X13 W4 hZ13 => ?_))
 clear hZ12
 unfold Stop
 try simp only [Act.put, zzC, zzD, zzE]
 go_wp2_with (refine stopz_store 32 (.tmp 14) (.tmp 37) 1 bk1 0 #[.slice none 0 0, .slice none 0 0, .bool false, .slice none 0 0] 32 4 [pf.v, sf.v, .bool cf.b, .slice cf.a cf.n cf.c] #[pf.v, sf.v, .bool cf.b, .slice cf.a cf.n cf.c] [(bk2, #[.slice none 0 0, .slice none 0 0, .bool false, .slice none 0 0], 45), (bk1, #[pf.v, sf.v, .bool cf.b, .slice cf.a cf.n cf.c], 32)] rfl rfl rfl rfl sz32 hZ13 rfl rfl (zzF (by kernel_rfl)) (by kernel_rfl) (by kernel_rfl) (by kernel_rfl) (fun W5 hZ14 => ?_))
 clear hZ13
 unfold Stop
 try simp only [Act.put, zzC, zzD, zzE]
 go_wp2_with (refine stopz_store 45 (.tmp 15) (.tmp 38) 0 bk2 0 #[.slice none 0 0, .slice none 0 0, .bool false, .slice none 0 0] 45 4 [pd.v, sd.v, .bool cd.b, .slice cd.a cd.n cd.c] #[pd.v, sd.v, .bool cd.b, .slice cd.a cd.n cd.c] [(bk2, #[pd.v, sd.v, .bool cd.b, .slice cd.a cd.n cd.c], 45), (bk1, #[pf.v, sf.v, .bool cf.b, .slice cf.a cf.n cf.c], 32)] rfl rfl rfl rfl sz45 hZ14 rfl rfl (zzF (by kernel_rfl)) (by kernel_rfl) (by kernel_rfl) (by kernel_rfl) (fun W6 hZ15 => ?_))
 clear hZ14
 unfold Stop
 try simp only [Act.put, zzC, zzD, zzE]
 go_wp2_with (refine stop_opw (by kernel_rfl) (fun K hK => wp_lssi (.tmp 43) (.const (.int .i64 0)) rfl rfl rfl (r := false) (decide_eq_false (by omega)) (hK _ _ ?_)))
 unfold Stop
 try simp only [Act.put, zzC, zzD, zzE]
 go_wp2_with (refine stop_opw (by kernel_rfl) (fun K hK => wp_lssi (.tmp 47) (.const (.int .i64 0)) rfl rfl rfl (r := false) (decide_eq_false (by omega)) (hK _ _ ?_)))
 unfold Stop
 try simp only [Act.put, zzC, zzD, zzE]
 go_wp2_with (refine stop_opw (by kernel_rfl) (fun K hK => wp_fda (v := .pointer (some ⟨bk1, 0, none⟩)) 32 (.tmp 14) 0 rfl rfl (fun _ => by kernel_rfl) (hK _ _ ?_)))
 unfold Stop
 try simp only [Act.put, zzC, zzD, zzE]
 go_wp2_with (refine stop_opw (by kernel_rfl) (fun K hK => wp_load1 (v := pf.v) 26 (.tmp 52) rfl bk1 0 #[pf.v, sf.v, .bool cf.b, .slice cf.a cf.n cf.c] 32 (hZ15.es.at' _ (zzG (i := 1) rfl)) rfl ag26 (by kernel_rfl) (hK _ _ ?_)))
 unfold Stop
 try simp only [Act.put, zzC, zzD, zzE]
 go_wp2_with (refine stop_opw (by kernel_rfl) (fun K hK => wp_lenq (.tmp 53) 26 27 pf rfl (by kernel_rfl) rfl (hZ15.get 5 (f := Mt n (fun _ => n) (mir c R) pf) rfl).n (hK _ _ ?_)))
 unfold Stop
 try simp only [Act.put, zzC, zzD, zzE]
 go_wp2_with (refine stop_opw (by kernel_rfl) (fun K hK => wp_gtri (.tmp 51) (.tmp 54) rfl rfl rfl (r := true) (decide_eq_true (by omega)) (hK _ _ ?_)))
 unfold Stop
 try simp only [Act.put, zzC, zzD, zzE]
 go_wp2
 go_ret
 exact ⟨rfl, hZ15.below⟩
open Classical in
set_option maxRecDepth 100000 in
set_option maxHeartbeats 25600000 in
theorem ult4 {X0 : Nat → Prop} {w : World} (hX : NX X0 w) (ra qa la : Sl) (m kx kl : Nat) (c : Nat → Nat) (R : Nat → Nat → Int) (x : Nat → Int) (cc : Int) (xl_ : Nat → Int) (hra : Mi m c R ra X0 w) (hqa : Li kx x qa X0 w) (hla : Li kl xl_ la X0 w) (rgR0 : ∀ i j, i < m → j < c i → -9223372036854775808 ≤ R i j ∧ R i j ≤ 9223372036854775807) (rgx0 : ∀ i, i < kx → -9223372036854775808 ≤ x i ∧ x i ≤ 9223372036854775807) (hcc : -9223372036854775808 ≤ cc ∧ cc ≤ 9223372036854775807) (rgl0 : ∀ i, i < kl → -9223372036854775808 ≤ xl_ i ∧ xl_ i ≤ 9223372036854775807) (n : Nat) (mm nn : Int) (hnm : n ≤ m) (hmin : (((m : Nat) : Int) ≤ ((6 : Nat) : Int) ∧ ((n : Nat) : Int) = ((m : Nat) : Int)) ∨ (((6 : Nat) : Int) < ((m : Nat) : Int) ∧ ((n : Nat) : Int) = ((6 : Nat) : Int))) (hnu : n ≤ 6) (h0 : 0 ≤ mm) (h1 : 0 ≤ nn) (h2 : mm ≤ (n : Int)) (h : (n : Int) - mm < nn) : Calls Tryz.prog 8 #[ra.v, qa.v, .int .i64 cc, la.v, .int .i64 mm, .int .i64 nn] w (PVal (.bool true) w) := by
 have rgR := Lib.hid rgR0
 clear rgR0
 have rgx := Lib.hid rgx0
 clear rgx0
 have rgl := Lib.hid rgl0
 clear rgl0
 have BPm : ∀ i j, i < n → j < n → Sz 2 (mir c R i j) := (fun (i j : Nat) hi hj => sz_int (mir_in rgR.out (Nat.lt_of_lt_of_le hi hnm) (Nat.lt_of_lt_of_le hj hnm)).1 (mir_in rgR.out (Nat.lt_of_lt_of_le hi hnm) (Nat.lt_of_lt_of_le hj hnm)).2)
 have BQm : ∀ i, i < n → Sz 2 (xl kx x i) := fun i _ => xl_in rgx.out i
 have BCm : Sz 2 cc := sz_int hcc.1 hcc.2
 have BXm : ∀ i, Sz 2 (xl kl xl_ i) := fun i => xl_in rgl.out i
 have hZ0 := zs_start hX
 have hZ1 := hZ0.more (f := Li kl xl_ la) (Li.stb _ _ _) hla
 clear hZ0
 have hZ2 := hZ1.more (f := Li kx x qa) (Li.stb _ _ _) hqa
 clear hZ1
 have hZ3 := hZ2.more (f := Mi m c R ra) (Mi.stb _ _ _ _) hra
 clear hZ2
 go_enter Tryz.func8, Tryz.ntmps8
 go_wp2_with fail
 refine (uAwake hZ3.nx).mono ?_
 rintro zz W1 ⟨rfl, hB⟩
 have hZ4 := hZ3.later hB
 clear hB
 clear hZ3
 go_wp2_with fail
 refine (uRead hZ4.nx ra qa 6 n (hZ4.get 0 (f := Mi m c R ra) rfl) (hZ4.get 1 (f := Li kx x qa) rfl) rgR.out rgx.out hcc (by omega) hnm hmin).mono ?_
 rintro zz W2 ⟨pf, sf, cf, pd, sd, cd, rfl, hi_pf, hi_sf, ez_cf, hi_cf, hi_pd, hi_sd, ez_cd, hi_cd, hB⟩
 have hZ5 := hZ4.later hB
 clear hB
 clear hZ4
 have hZ6 := hZ5.more (f := Mt n (fun _ => n) (mir c R) pf) (Mt.stb _ _ _ _) hi_pf
 clear hZ5
 clear hi_pf
 have hZ7 := hZ6.more (f := Ls n (xl kx x) sf) (Ls.stb _ _ _) hi_sf
 clear hZ6
 clear hi_sf
 have hZ8 := hZ7.more (f := cf.is) cf.stb hi_cf
 clear hZ7
 clear hi_cf
 have hZ9 := hZ8.more (f := Mr n (fun _ => n) (mir c R) pd) (Mr.stb _ _ _ _) hi_pd
 clear hZ8
 clear hi_pd
 have hZ10 := hZ9.more (f := Lr n (xl kx x) sd) (Lr.stb _ _ _) hi_sd
 clear hZ9
 clear hi_sd
 have hZ11 := hZ10.more (f := cd.ir) cd.stbr hi_cd
 clear hZ10
 clear hi_cd
 go_wp2_with (refine stopz_alloc 32 #[.slice none 0 0, .slice none 0 0, .bool false, .slice none 0 0] (.agg #[.slice none 0 0, .slice none 0 0, .bool false, .slice none 0 0]) rfl rfl zv32 rfl hZ11 (fun bk1 X12 W3 hZ12 => ?_))
 clear hZ11
 unfold Stop
 try simp only [Act.put, zzC, zzD, zzE]
 go_wp2_with (refine stopz_alloc 45 #[.slice none 0 0, .slice none 0 0, .bool false, .slice none 0 0] (.agg #[.slice none 0 0, .slice none 0 0, .bool false, .slice none 0 0]) rfl rfl zv45 rfl hZ12 (fun bk2 X13 W4 hZ13 => ?_))
 clear hZ12
 unfold Stop
 try simp only [Act.put, zzC, zzD, zzE]
 go_wp2_with (refine stopz_store 32 (.tmp 14) (.tmp 37) 1 bk1 0 #[.slice none 0 0, .slice none 0 0, .bool false, .slice none 0 0] 32 4 [pf.v, sf.v, .bool cf.b, .slice cf.a cf.n cf.c] #[pf.v, sf.v, .bool cf.b, .slice cf.a cf.n cf.c] [(bk2, #[.slice none 0 0, .slice none 0 0, .bool false, .slice none 0 0], 45), (bk1, #[pf.v, sf.v, .bool cf.b, .slice cf.a cf.n cf.c], 32)] rfl rfl rfl rfl sz32 hZ13 rfl rfl (zzF (by kernel_rfl)) (by kernel_rfl) (by kernel_rfl) (by kernel_rfl) (fun W5 hZ14 => ?_))
 clear hZ13
 unfold Stop
 try simp only [Act.put, zzC, zzD, zzE]
 go_wp2_with (refine stopz_store 45 (.tmp 15) (.tmp 38) 0 bk2 0 #[.slice none 0 0, .slice none 0 0, .bool false, .slice none 0 0] 45 4 [pd.v, sd.v, .bool cd.b, .slice cd.a cd.n cd.c] #[pd.v, sd.v, .bool cd.b, .slice cd.a cd.n cd.c] [(bk2, #[pd.v, sd.v, .bool cd.b, .slice cd.a cd.n cd.c], 45), (bk1, #[pf.v, sf.v, .bool cf.b, .slice cf.a cf.n cf.c], 32)] rfl rfl rfl rfl sz45 hZ14 rfl rfl (zzF (by kernel_rfl)) (by kernel_rfl) (by kernel_rfl) (by kernel_rfl) (fun W6 hZ15 => ?_))
 clear hZ14
 unfold Stop
 try simp only [Act.put, zzC, zzD, zzE]
 go_wp2_with (refine stop_opw (by kernel_rfl) (fun K hK => wp_lssi (.tmp 43) (.const (.int .i64 0)) rfl rfl rfl (r := false) (decide_eq_false (by omega)) (hK _ _ ?_)))
 unfold Stop
 try simp only [Act.put, zzC, zzD, zzE]
 go_wp2_with (refine stop_opw (by kernel_rfl) (fun K hK => wp_lssi (.tmp 47) (.const (.int .i64 0)) rfl rfl rfl (r := false) (decide_eq_false (by omega)) (hK _ _ ?_)))
 unfold Stop
 try simp only [Act.put, zzC, zzD, zzE]
 go_wp2_with (refine stop_opw (by kernel_rfl) (fun K hK => wp_fda (v := .pointer (some ⟨bk1, 0, none⟩)) 32 (.tmp 14) 0 rfl rfl (fun _ => by kernel_rfl) (hK _ _ ?_)))
 unfold Stop
 try simp only [Act.put, zzC, zzD, zzE]
 go_wp2_with (refine stop_opw (by kernel_rfl) (fun K hK => wp_load1 (v := pf.v) 26 (.tmp 52) rfl bk1 0 #[pf.v, sf.v, .bool cf.b, .slice cf.a cf.n cf.c] 32 (hZ15.es.at' _ (zzG (i := 1) rfl)) rfl ag26 (by kernel_rfl) (hK _ _ ?_)))
 unfold Stop
 try simp only [Act.put, zzC, zzD, zzE]
 go_wp2_with (refine stop_opw (by kernel_rfl) (fun K hK => wp_lenq (.tmp 53) 26 27 pf rfl (by kernel_rfl) rfl (hZ15.get 5 (f := Mt n (fun _ => n) (mir c R) pf) rfl).n (hK _ _ ?_)))
 unfold Stop
 try simp only [Act.put, zzC, zzD, zzE]
 go_wp2_with (refine stop_opw (by kernel_rfl) (fun K hK => wp_gtri (.tmp 51) (.tmp 54) rfl rfl rfl (r := false) (decide_eq_false (by omega)) (hK _ _ ?_)))
 unfold Stop
 try simp only [Act.put, zzC, zzD, zzE]
 go_wp2_with (refine stop_opw (by kernel_rfl) (fun K hK => wp_fda (v := .pointer (some ⟨bk1, 0, none⟩)) 32 (.tmp 14) 0 rfl rfl (fun _ => by kernel_rfl) (hK _ _ ?_)))
 unfold Stop
 try simp only [Act.put, zzC, zzD, zzE]
 go_wp2_with (refine stop_opw (by kernel_rfl) (fun K hK => wp_load1 (v := pf.v) 26 (.tmp 59) rfl bk1 0 #[pf.v, sf.v, .bool cf.b, .slice cf.a cf.n cf.c] 32 (hZ15.es.at' _ (zzG (i := 1) rfl)) rfl ag26 (by kernel_rfl) (hK _ _ ?_)))
 unfold Stop
 try simp only [Act.put, zzC, zzD, zzE]
 go_wp2_with (refine stop_opw (by kernel_rfl) (fun K hK => wp_lenq (.tmp 60) 26 27 pf rfl (by kernel_rfl) rfl (hZ15.get 5 (f := Mt n (fun _ => n) (mir c R) pf) rfl).n (hK _ _ ?_)))
 unfold Stop
 try simp only [Act.put, zzC, zzD, zzE]
 go_wp2_with (refine stop_opw (by kernel_rfl) (fun K hK => wp_subi (.tmp 61) (.tmp 62) rfl rfl rfl (C := (((n : Nat) : Int) - mm)) (by omega) (by omega) (by omega) (hK _ _ ?_)))
 unfold Stop
 try simp only [Act.put, zzC, zzD, zzE]
 go_wp2_with (refine stop_opw (by kernel_rfl) (fun K hK => wp_gtri (.tmp 58) (.tmp 63) rfl rfl rfl (r := true) (decide_eq_true (by omega)) (hK _ _ ?_)))
 unfold Stop
 try simp only [Act.put, zzC, zzD, zzE]
 go_wp2
 go_ret
 exact ⟨rfl, hZ15.below⟩
end Go.Proofs.YtjclllindbfmhaaGreatDoor

/- The law QuadTwice of layer 8, walked. No statement of the seat is proved here. -/
namespace Go.Proofs.YtjclllindbfmhaaGreatDoor
open Go Go.RowKit
open Classical in
set_option maxRecDepth 100000 in
set_option maxHeartbeats 25600000 in
theorem ult5 {X0 : Nat → Prop} {w : World} (hX : NX X0 w) (ra qa la : Sl) (m kx kl : Nat) (c : Nat → Nat) (R : Nat → Nat → Int) (x : Nat → Int) (cc : Int) (xl_ : Nat → Int) (hra : Mi m c R ra X0 w) (hqa : Li kx x qa X0 w) (hla : Li kl xl_ la X0 w) (rgR0 : ∀ i j, i < m → j < c i → -9223372036854775808 ≤ R i j ∧ R i j ≤ 9223372036854775807) (rgx0 : ∀ i, i < kx → -9223372036854775808 ≤ x i ∧ x i ≤ 9223372036854775807) (hcc : -9223372036854775808 ≤ cc ∧ cc ≤ 9223372036854775807) (rgl0 : ∀ i, i < kl → -9223372036854775808 ≤ xl_ i ∧ xl_ i ≤ 9223372036854775807) (a b r : Nat) (hnm : a + (b + r) ≤ m) (hmin : (((m : Nat) : Int) ≤ ((6 : Nat) : Int) ∧ ((a + (b + r) : Nat) : Int) = ((m : Nat) : Int)) ∨ (((6 : Nat) : Int) < ((m : Nat) : Int) ∧ ((a + (b + r) : Nat) : Int) = ((6 : Nat) : Int))) (hnu : a + (b + r) ≤ 6) (ha : ¬ (Sym a (mir c R) ∧ ∀ i, i < a → 0 < M.dt (i + 1) (mir c R))) : Calls Tryz.prog 8 #[ra.v, qa.v, .int .i64 cc, la.v, .int .i64 ((a : Nat) : Int), .int .i64 ((b : Nat) : Int)] w (PVal (.bool true) w) := by
 have rgR := Lib.hid rgR0
 clear rgR0
 have rgx := Lib.hid rgx0
 clear rgx0
 have rgl := Lib.hid rgl0
 clear rgl0
 have BPm : ∀ i j, i < a + (b + r) → j < a + (b + r) → Sz 2 (mir c R i j) := (fun (i j : Nat) hi hj => sz_int (mir_in rgR.out (Nat.lt_of_lt_of_le hi hnm) (Nat.lt_of_lt_of_le hj hnm)).1 (mir_in rgR.out (Nat.lt_of_lt_of_le hi hnm) (Nat.lt_of_lt_of_le hj hnm)).2)
 have BQm : ∀ i, i < a + (b + r) → Sz 2 (xl kx x i) := fun i _ => xl_in rgx.out i
 have BCm : Sz 2 cc := sz_int hcc.1 hcc.2
 have BXm : ∀ i, Sz 2 (xl kl xl_ i) := fun i => xl_in rgl.out i
 have hZ0 := zs_start hX
 have hZ1 := hZ0.more (f := Li kl xl_ la) (Li.stb _ _ _) hla
 clear hZ0
 have hZ2 := hZ1.more (f := Li kx x qa) (Li.stb _ _ _) hqa
 clear hZ1
 have hZ3 := hZ2.more (f := Mi m c R ra) (Mi.stb _ _ _ _) hra
 clear hZ2
 go_enter Tryz.func8, Tryz.ntmps8
 have HA := Lib.hid ha
 clear ha
 have hda : dtb 2 a ≤ 3000 := dtb_le (by omega) (by omega)
 have hla : lpb 2 a ≤ 150 := lpb_le (by omega)
 have hla1 : 1 ≤ lpb 2 a := by unfold lpb; omega
 go_wp2_with fail
 refine (uAwake hZ3.nx).mono ?_
 rintro zz W1 ⟨rfl, hB⟩
 have hZ4 := hZ3.later hB
 clear hB
 clear hZ3
 go_wp2_with fail
 refine (uRead hZ4.nx ra qa 6 (a + (b + r)) (hZ4.get 0 (f := Mi m c R ra) rfl) (hZ4.get 1 (f := Li kx x qa) rfl) rgR.out rgx.out hcc (by omega) hnm hmin).mono ?_
 rintro zz W2 ⟨pf, sf, cf, pd, sd, cd, rfl, hi_pf, hi_sf, ez_cf, hi_cf, hi_pd, hi_sd, ez_cd, hi_cd, hB⟩
 have hZ5 := hZ4.later hB
 clear hB
 clear hZ4
 have hZ6 := hZ5.more (f := Mt (a + (b + r)) (fun _ => a + (b + r)) (mir c R) pf) (Mt.stb _ _ _ _) hi_pf
 clear hZ5
 clear hi_pf
 have hZ7 := hZ6.more (f := Ls (a + (b + r)) (xl kx x) sf) (Ls.stb _ _ _) hi_sf
 clear hZ6
 clear hi_sf
 have hZ8 := hZ7.more (f := cf.is) cf.stb hi_cf
 clear hZ7
 clear hi_cf
 have hZ9 := hZ8.more (f := Mr (a + (b + r)) (fun _ => a + (b + r)) (mir c R) pd) (Mr.stb _ _ _ _) hi_pd
 clear hZ8
 clear hi_pd
 have hZ10 := hZ9.more (f := Lr (a + (b + r)) (xl kx x) sd) (Lr.stb _ _ _) hi_sd
 clear hZ9
 clear hi_sd
 have hZ11 := hZ10.more (f := cd.ir) cd.stbr hi_cd
 clear hZ10
 clear hi_cd
 go_wp2_with (refine stopz_alloc 32 #[.slice none 0 0, .slice none 0 0, .bool false, .slice none 0 0] (.agg #[.slice none 0 0, .slice none 0 0, .bool false, .slice none 0 0]) rfl rfl zv32 rfl hZ11 (fun bk1 X12 W3 hZ12 => ?_))
 clear hZ11
 unfold Stop
 try simp only [Act.put, zzC, zzD, zzE]
 go_wp2_with (refine stopz_alloc 45 #[.slice none 0 0, .slice none 0 0, .bool false, .slice none 0 0] (.agg #[.slice none 0 0, .slice none 0 0, .bool false, .slice none 0 0]) rfl rfl zv45 rfl hZ12 (fun bk2 X13 W4 hZ13 => ?_))
 clear hZ12
 unfold Stop
 try simp only [Act.put, zzC, zzD, zzE]
 go_wp2_with (refine stopz_store 32 (.tmp 14) (.tmp 37) 1 bk1 0 #[.slice none 0 0, .slice none 0 0, .bool false, .slice none 0 0] 32 4 [pf.v, sf.v, .bool cf.b, .slice cf.a cf.n cf.c] #[pf.v, sf.v, .bool cf.b, .slice cf.a cf.n cf.c] [(bk2, #[.slice none 0 0, .slice none 0 0, .bool false, .slice none 0 0], 45), (bk1, #[pf.v, sf.v, .bool cf.b, .slice cf.a cf.n cf.c], 32)] rfl rfl rfl rfl sz32 hZ13 rfl rfl (zzF (by kernel_rfl)) (by kernel_rfl) (by kernel_rfl) (by kernel_rfl) (fun W5 hZ14 => ?_))
 clear hZ13
 unfold Stop
 try simp only [Act.put, zzC, zzD, zzE]
 go_wp2_with (refine stopz_store 45 (.tmp 15) (.tmp 38) 0 bk2 0 #[.slice none 0 0, .slice none 0 0, .bool false, .slice none 0 0] 45 4 [pd.v, sd.v, .bool cd.b, .slice cd.a cd.n cd.c] #[pd.v, sd.v, .bool cd.b, .slice cd.a cd.n cd.c] [(bk2, #[pd.v, sd.v, .bool cd.b, .slice cd.a cd.n cd.c], 45), (bk1, #[pf.v, sf.v, .bool cf.b, .slice cf.a cf.n cf.c], 32)] rfl rfl rfl rfl sz45 hZ14 rfl rfl (zzF (by kernel_rfl)) (by kernel_rfl) (by kernel_rfl) (by kernel_rfl) (fun W6 hZ15 => ?_))
 clear hZ14
 unfold Stop
 try simp only [Act.put, zzC, zzD, zzE]
 go_wp2_with (refine stop_opw (by kernel_rfl) (fun K hK => wp_lssi (.tmp 43) (.const (.int .i64 0)) rfl rfl rfl (r := false) (decide_eq_false (by omega)) (hK _ _ ?_)))
 unfold Stop
 try simp only [Act.put, zzC, zzD, zzE]
 go_wp2_with (refine stop_opw (by kernel_rfl) (fun K hK => wp_lssi (.tmp 47) (.const (.int .i64 0)) rfl rfl rfl (r := false) (decide_eq_false (by omega)) (hK _ _ ?_)))
 unfold Stop
 try simp only [Act.put, zzC, zzD, zzE]
 go_wp2_with (refine stop_opw (by kernel_rfl) (fun K hK => wp_fda (v := .pointer (some ⟨bk1, 0, none⟩)) 32 (.tmp 14) 0 rfl rfl (fun _ => by kernel_rfl) (hK _ _ ?_)))
 unfold Stop
 try simp only [Act.put, zzC, zzD, zzE]
 go_wp2_with (refine stop_opw (by kernel_rfl) (fun K hK => wp_load1 (v := pf.v) 26 (.tmp 52) rfl bk1 0 #[pf.v, sf.v, .bool cf.b, .slice cf.a cf.n cf.c] 32 (hZ15.es.at' _ (zzG (i := 1) rfl)) rfl ag26 (by kernel_rfl) (hK _ _ ?_)))
 unfold Stop
 try simp only [Act.put, zzC, zzD, zzE]
 go_wp2_with (refine stop_opw (by kernel_rfl) (fun K hK => wp_lenq (.tmp 53) 26 27 pf rfl (by kernel_rfl) rfl (hZ15.get 5 (f := Mt (a + (b + r)) (fun _ => a + (b + r)) (mir c R) pf) rfl).n (hK _ _ ?_)))
 unfold Stop
 try simp only [Act.put, zzC, zzD, zzE]
 go_wp2_with (refine stop_opw (by kernel_rfl) (fun K hK => wp_gtri (.tmp 51) (.tmp 54) rfl rfl rfl (r := false) (decide_eq_false (by omega)) (hK _ _ ?_)))
 unfold Stop
 try simp only [Act.put, zzC, zzD, zzE]
 go_wp2_with (refine stop_opw (by kernel_rfl) (fun K hK => wp_fda (v := .pointer (some ⟨bk1, 0, none⟩)) 32 (.tmp 14) 0 rfl rfl (fun _ => by kernel_rfl) (hK _ _ ?_)))
 unfold Stop
 try simp only [Act.put, zzC, zzD, zzE]
 go_wp2_with (refine stop_opw (by kernel_rfl) (fun K hK => wp_load1 (v := pf.v) 26 (.tmp 59) rfl bk1 0 #[pf.v, sf.v, .bool cf.b, .slice cf.a cf.n cf.c] 32 (hZ15.es.at' _ (zzG (i := 1) rfl)) rfl ag26 (by kernel_rfl) (hK _ _ ?_)))
 unfold Stop
 try simp only [Act.put, zzC, zzD, zzE]
 go_wp2_with (refine stop_opw (by kernel_rfl) (fun K hK => wp_lenq (.tmp 60) 26 27 pf rfl (by kernel_rfl) rfl (hZ15.get 5 (f := Mt (a + (b + r)) (fun _ => a + (b + r)) (mir c R) pf) rfl).n (hK _ _ ?_)))
 unfold Stop
 try simp only [Act.put, zzC, zzD, zzE]
 go_wp2_with (refine stop_opw (by kernel_rfl) (fun K hK => wp_subi (.tmp 61) (.tmp 62) rfl rfl rfl (C := ((b + r : Nat) : Int)) (by omega) (by omega) (by omega) (hK _ _ ?_)))
 unfold Stop
 try simp only [Act.put, zzC, zzD, zzE]
 go_wp2_with (refine stop_opw (by kernel_rfl) (fun K hK => wp_gtri (.tmp 58) (.tmp 63) rfl rfl rfl (r := false) (decide_eq_false (by omega)) (hK _ _ ?_)))
 unfold Stop
 try simp only [Act.put, zzC, zzD, zzE]
 go_wp2_with (refine stop_op rfl (fun K hK => wp_load 32 (.tmp 14) rfl bk1 0 4 #[pf.v, sf.v, .bool cf.b, .slice cf.a cf.n cf.c] #[pf.v, sf.v, .bool cf.b, .slice cf.a cf.n cf.c] 32 (hZ15.es.at' _ (zzG (i := 1) rfl)) rfl ag32 sz32 (zzF (by kernel_rfl)) (by kernel_rfl) (hK _ _ ?_)))
 unfold Stop
 try simp only [Act.put, zzC, zzD, zzE]
 go_wp2_with fail
 refine (uWoFlat hZ15.nx pf sf cf (k := a) (r := b + r) (e := 2) (hZ15.get 5 (f := Mt (a + (b + r)) (fun _ => a + (b + r)) (mir c R) pf) rfl) (hZ15.get 4 (f := Ls (a + (b + r)) (xl kx x) sf) rfl) (hZ15.get 3 (f := cf.is) rfl) ez_cf BPm BQm BCm (fun i j _ _ => mir_sym c R i j) (by omega) (by omega) (by omega) (by omega) HA.out).mono ?_
 rintro zz W7 ⟨rfl, hB⟩
 have hZ16 := hZ15.later hB
 clear hB
 clear hZ15
 go_wp2_with (refine stopz_alloc 32 #[.slice none 0 0, .slice none 0 0, .bool false, .slice none 0 0] (.agg #[.slice none 0 0, .slice none 0 0, .bool false, .slice none 0 0]) rfl rfl zv32 rfl hZ16 (fun bk3 X17 W8 hZ17 => ?_))
 clear hZ16
 unfold Stop
 try simp only [Act.put, zzC, zzD, zzE]
 go_wp2_with (refine stopz_alloc 30 #[.bool false, .slice none 0 0] (.agg #[.bool false, .slice none 0 0]) rfl rfl zv30 rfl hZ17 (fun bk4 X18 W9 hZ18 => ?_))
 clear hZ17
 unfold Stop
 try simp only [Act.put, zzC, zzD, zzE]
 go_wp2_with (refine stopz_store 32 (.tmp 17) (.tmp 71) 1 bk3 0 #[.slice none 0 0, .slice none 0 0, .bool false, .slice none 0 0] 32 4 [.slice none 0 0, .slice none 0 0, .bool false, .slice none 0 0] #[.slice none 0 0, .slice none 0 0, .bool false, .slice none 0 0] [(bk4, #[.bool false, .slice none 0 0], 30), (bk3, #[.slice none 0 0, .slice none 0 0, .bool false, .slice none 0 0], 32), (bk2, #[pd.v, sd.v, .bool cd.b, .slice cd.a cd.n cd.c], 45), (bk1, #[pf.v, sf.v, .bool cf.b, .slice cf.a cf.n cf.c], 32)] rfl rfl rfl rfl sz32 hZ18 rfl rfl (zzF (by kernel_rfl)) (by kernel_rfl) (by kernel_rfl) (by kernel_rfl) (fun W10 hZ19 => ?_))
 clear hZ18
 unfold Stop
 try simp only [Act.put, zzC, zzD, zzE]
 go_wp2_with (refine stopz_store 30 (.tmp 18) (.tmp 72) 0 bk4 0 #[.bool false, .slice none 0 0] 30 2 [.bool false, .slice none 0 0] #[.bool false, .slice none 0 0] [(bk4, #[.bool false, .slice none 0 0], 30), (bk3, #[.slice none 0 0, .slice none 0 0, .bool false, .slice none 0 0], 32), (bk2, #[pd.v, sd.v, .bool cd.b, .slice cd.a cd.n cd.c], 45), (bk1, #[pf.v, sf.v, .bool cf.b, .slice cf.a cf.n cf.c], 32)] rfl rfl rfl rfl sz30 hZ19 rfl rfl (zzF (by kernel_rfl)) (by kernel_rfl) (by kernel_rfl) (by kernel_rfl) (fun W11 hZ20 => ?_))
 clear hZ19
 unfold Stop
 try simp only [Act.put, zzC, zzD, zzE]
 go_wp2
 go_ret
 exact ⟨rfl, hZ20.below⟩
end Go.Proofs.YtjclllindbfmhaaGreatDoor

/- The law QuadTwice of layer 8, walked. No statement of the seat is proved here. -/
namespace Go.Proofs.YtjclllindbfmhaaGreatDoor
open Go Go.RowKit
open Classical in
set_option maxRecDepth 100000 in
set_option maxHeartbeats 25600000 in
theorem ult6 {X0 : Nat → Prop} {w : World} (hX : NX X0 w) (ra qa la : Sl) (m kx kl : Nat) (c : Nat → Nat) (R : Nat → Nat → Int) (x : Nat → Int) (cc : Int) (xl_ : Nat → Int) (hra : Mi m c R ra X0 w) (hqa : Li kx x qa X0 w) (hla : Li kl xl_ la X0 w) (rgR0 : ∀ i j, i < m → j < c i → -9223372036854775808 ≤ R i j ∧ R i j ≤ 9223372036854775807) (rgx0 : ∀ i, i < kx → -9223372036854775808 ≤ x i ∧ x i ≤ 9223372036854775807) (hcc : -9223372036854775808 ≤ cc ∧ cc ≤ 9223372036854775807) (rgl0 : ∀ i, i < kl → -9223372036854775808 ≤ xl_ i ∧ xl_ i ≤ 9223372036854775807) (a b r : Nat) (hnm : a + (b + r) ≤ m) (hmin : (((m : Nat) : Int) ≤ ((6 : Nat) : Int) ∧ ((a + (b + r) : Nat) : Int) = ((m : Nat) : Int)) ∨ (((6 : Nat) : Int) < ((m : Nat) : Int) ∧ ((a + (b + r) : Nat) : Int) = ((6 : Nat) : Int))) (hnu : a + (b + r) ≤ 6) (ha : (Sym a (mir c R) ∧ ∀ i, i < a → 0 < M.dt (i + 1) (mir c R))) (hab : ¬ (Sym (a + b) (mir c R) ∧ ∀ i, i < a + b → 0 < M.dt (i + 1) (mir c R))) : Calls Tryz.prog 8 #[ra.v, qa.v, .int .i64 cc, la.v, .int .i64 ((a : Nat) : Int), .int .i64 ((b : Nat) : Int)] w (PVal (.bool true) w) := by
 have rgR := Lib.hid rgR0
 clear rgR0
 have rgx := Lib.hid rgx0
 clear rgx0
 have rgl := Lib.hid rgl0
 clear rgl0
 have BPm : ∀ i j, i < a + (b + r) → j < a + (b + r) → Sz 2 (mir c R i j) := (fun (i j : Nat) hi hj => sz_int (mir_in rgR.out (Nat.lt_of_lt_of_le hi hnm) (Nat.lt_of_lt_of_le hj hnm)).1 (mir_in rgR.out (Nat.lt_of_lt_of_le hi hnm) (Nat.lt_of_lt_of_le hj hnm)).2)
 have BQm : ∀ i, i < a + (b + r) → Sz 2 (xl kx x i) := fun i _ => xl_in rgx.out i
 have BCm : Sz 2 cc := sz_int hcc.1 hcc.2
 have BXm : ∀ i, Sz 2 (xl kl xl_ i) := fun i => xl_in rgl.out i
 have hZ0 := zs_start hX
 have hZ1 := hZ0.more (f := Li kl xl_ la) (Li.stb _ _ _) hla
 clear hZ0
 have hZ2 := hZ1.more (f := Li kx x qa) (Li.stb _ _ _) hqa
 clear hZ1
 have hZ3 := hZ2.more (f := Mi m c R ra) (Mi.stb _ _ _ _) hra
 clear hZ2
 go_enter Tryz.func8, Tryz.ntmps8
 have HA := Lib.hid ha
 clear ha
 have hda : dtb 2 a ≤ 3000 := dtb_le (by omega) (by omega)
 have hla : lpb 2 a ≤ 150 := lpb_le (by omega)
 have hla1 : 1 ≤ lpb 2 a := by unfold lpb; omega
 have HAB := Lib.hid hab
 clear hab
 have hdab : dtb 2 (a + b) ≤ 3000 := dtb_le (by omega) (by omega)
 have hlab : lpb 2 (a + b) ≤ 150 := lpb_le (by omega)
 have hdb : dtb (lpb 2 a) b ≤ 3000 := dtb_le (by omega) (by omega)
 have hlb : lpb (lpb 2 a) b ≤ 3300 := by unfold lpb at *; omega
 have HDa : Hid (M.dt a (mir c R) ≠ 0) := Lib.hid (Int.ne_of_gt (dt_pos HA.out))
 have HSg : Hid (Sym (b + r) (lp a (mir c R))) := Lib.hid (lp_sym (fun i j _ _ => mir_sym c R i j) HDa.out)
 have BPg : ∀ i j, i < b + r → j < b + r → Sz (lpb 2 a) (lp a (mir c R) i j) := fun i j hi hj => lp_sz (k := a) (r := b + r) (n := a) (Nat.le_refl _) BPm hi hj
 have BQg : ∀ i, i < b + r → Sz (lpb 2 a) (lq a (mir c R) (xl kx x) i) := fun i hi => lq_sz (k := a) (r := b + r) BPm BQm hi
 have BCg : Sz (lpb 2 a) (lc a (mir c R) (xl kx x) cc) := lc_sz (k := a) (fun i j hi hj => BPm i j (by omega) (by omega)) (fun i hi => BQm i (by omega)) BCm
 have BP2 : ∀ i j, i < a + b + r → j < a + b + r → Sz 2 (mir c R i j) := fun i j hi hj => BPm i j (by omega) (by omega)
 have BQ2 : ∀ i, i < a + b + r → Sz 2 (xl kx x i) := fun i hi => BQm i (by omega)
 have HIF : Hid ((Sym b (lp a (mir c R)) ∧ ∀ i, i < b → 0 < M.dt (i + 1) (lp a (mir c R))) ↔ (Sym (a + b) (mir c R) ∧ ∀ i, i < a + b → 0 < M.dt (i + 1) (mir c R))) := Lib.hid (twice_def (e := 2) (f := lpb 2 a) (by omega) hla1 (fun i j hi hj => BPm i j (by omega) (by omega)) (fun i j hi hj => BPg i j (by omega) (by omega)) (fun i j _ _ => mir_sym c R i j) HA.out)
 have HB : Hid (¬ (Sym b (lp a (mir c R)) ∧ ∀ i, i < b → 0 < M.dt (i + 1) (lp a (mir c R)))) := Lib.hid (fun h => HAB.out (HIF.out.1 h))
 go_wp2_with fail
 refine (uAwake hZ3.nx).mono ?_
 rintro zz W1 ⟨rfl, hB⟩
 have hZ4 := hZ3.later hB
 clear hB
 clear hZ3
 go_wp2_with fail
 refine (uRead hZ4.nx ra qa 6 (a + (b + r)) (hZ4.get 0 (f := Mi m c R ra) rfl) (hZ4.get 1 (f := Li kx x qa) rfl) rgR.out rgx.out hcc (by omega) hnm hmin).mono ?_
 rintro zz W2 ⟨pf, sf, cf, pd, sd, cd, rfl, hi_pf, hi_sf, ez_cf, hi_cf, hi_pd, hi_sd, ez_cd, hi_cd, hB⟩
 have hZ5 := hZ4.later hB
 clear hB
 clear hZ4
 have hZ6 := hZ5.more (f := Mt (a + (b + r)) (fun _ => a + (b + r)) (mir c R) pf) (Mt.stb _ _ _ _) hi_pf
 clear hZ5
 clear hi_pf
 have hZ7 := hZ6.more (f := Ls (a + (b + r)) (xl kx x) sf) (Ls.stb _ _ _) hi_sf
 clear hZ6
 clear hi_sf
 have hZ8 := hZ7.more (f := cf.is) cf.stb hi_cf
 clear hZ7
 clear hi_cf
 have hZ9 := hZ8.more (f := Mr (a + (b + r)) (fun _ => a + (b + r)) (mir c R) pd) (Mr.stb _ _ _ _) hi_pd
 clear hZ8
 clear hi_pd
 have hZ10 := hZ9.more (f := Lr (a + (b + r)) (xl kx x) sd) (Lr.stb _ _ _) hi_sd
 clear hZ9
 clear hi_sd
 have hZ11 := hZ10.more (f := cd.ir) cd.stbr hi_cd
 clear hZ10
 clear hi_cd
 go_wp2_with (refine stopz_alloc 32 #[.slice none 0 0, .slice none 0 0, .bool false, .slice none 0 0] (.agg #[.slice none 0 0, .slice none 0 0, .bool false, .slice none 0 0]) rfl rfl zv32 rfl hZ11 (fun bk1 X12 W3 hZ12 => ?_))
 clear hZ11
 unfold Stop
 try simp only [Act.put, zzC, zzD, zzE]
 go_wp2_with (refine stopz_alloc 45 #[.slice none 0 0, .slice none 0 0, .bool false, .slice none 0 0] (.agg #[.slice none 0 0, .slice none 0 0, .bool false, .slice none 0 0]) rfl rfl zv45 rfl hZ12 (fun bk2 X13 W4 hZ13 => ?_))
 clear hZ12
 unfold Stop
 try simp only [Act.put, zzC, zzD, zzE]
 go_wp2_with (refine stopz_store 32 (.tmp 14) (.tmp 37) 1 bk1 0 #[.slice none 0 0, .slice none 0 0, .bool false, .slice none 0 0] 32 4 [pf.v, sf.v, .bool cf.b, .slice cf.a cf.n cf.c] #[pf.v, sf.v, .bool cf.b, .slice cf.a cf.n cf.c] [(bk2, #[.slice none 0 0, .slice none 0 0, .bool false, .slice none 0 0], 45), (bk1, #[pf.v, sf.v, .bool cf.b, .slice cf.a cf.n cf.c], 32)] rfl rfl rfl rfl sz32 hZ13 rfl rfl (zzF (by kernel_rfl)) (by kernel_rfl) (by kernel_rfl) (by kernel_rfl) (fun W5 hZ14 => ?_))
 clear hZ13
 unfold Stop
 try simp only [Act.put, zzC, zzD, zzE]
 go_wp2_with (refine stopz_store 45 (.tmp 15) (.tmp 38) 0 bk2 0 #[.slice none 0 0, .slice none 0 0, .bool false, .slice none 0 0] 45 4 [pd.v, sd.v, .bool cd.b, .slice cd.a cd.n cd.c] #[pd.v, sd.v, .bool cd.b, .slice cd.a cd.n cd.c] [(bk2, #[pd.v, sd.v, .bool cd.b, .slice cd.a cd.n cd.c], 45), (bk1, #[pf.v, sf.v, .bool cf.b, .slice cf.a cf.n cf.c], 32)] rfl rfl rfl rfl sz45 hZ14 rfl rfl (zzF (by kernel_rfl)) (by kernel_rfl) (by kernel_rfl) (by kernel_rfl) (fun W6 hZ15 => ?_))
 clear hZ14
 unfold Stop
 try simp only [Act.put, zzC, zzD, zzE]
 go_wp2_with (refine stop_opw (by kernel_rfl) (fun K hK => wp_lssi (.tmp 43) (.const (.int .i64 0)) rfl rfl rfl (r := false) (decide_eq_false (by omega)) (hK _ _ ?_)))
 unfold Stop
 try simp only [Act.put, zzC, zzD, zzE]
 go_wp2_with (refine stop_opw (by kernel_rfl) (fun K hK => wp_lssi (.tmp 47) (.const (.int .i64 0)) rfl rfl rfl (r := false) (decide_eq_false (by omega)) (hK _ _ ?_)))
 unfold Stop
 try simp only [Act.put, zzC, zzD, zzE]
 go_wp2_with (refine stop_opw (by kernel_rfl) (fun K hK => wp_fda (v := .pointer (some ⟨bk1, 0, none⟩)) 32 (.tmp 14) 0 rfl rfl (fun _ => by kernel_rfl) (hK _ _ ?_)))
 unfold Stop
 try simp only [Act.put, zzC, zzD, zzE]
 go_wp2_with (refine stop_opw (by kernel_rfl) (fun K hK => wp_load1 (v := pf.v) 26 (.tmp 52) rfl bk1 0 #[pf.v, sf.v, .bool cf.b, .slice cf.a cf.n cf.c] 32 (hZ15.es.at' _ (zzG (i := 1) rfl)) rfl ag26 (by kernel_rfl) (hK _ _ ?_)))
 unfold Stop
 try simp only [Act.put, zzC, zzD, zzE]
 go_wp2_with (refine stop_opw (by kernel_rfl) (fun K hK => wp_lenq (.tmp 53) 26 27 pf rfl (by kernel_rfl) rfl (hZ15.get 5 (f := Mt (a + (b + r)) (fun _ => a + (b + r)) (mir c R) pf) rfl).n (hK _ _ ?_)))
 unfold Stop
 try simp only [Act.put, zzC, zzD, zzE]
 go_wp2_with (refine stop_opw (by kernel_rfl) (fun K hK => wp_gtri (.tmp 51) (.tmp 54) rfl rfl rfl (r := false) (decide_eq_false (by omega)) (hK _ _ ?_)))
 unfold Stop
 try simp only [Act.put, zzC, zzD, zzE]
 go_wp2_with (refine stop_opw (by kernel_rfl) (fun K hK => wp_fda (v := .pointer (some ⟨bk1, 0, none⟩)) 32 (.tmp 14) 0 rfl rfl (fun _ => by kernel_rfl) (hK _ _ ?_)))
 unfold Stop
 try simp only [Act.put, zzC, zzD, zzE]
 go_wp2_with (refine stop_opw (by kernel_rfl) (fun K hK => wp_load1 (v := pf.v) 26 (.tmp 59) rfl bk1 0 #[pf.v, sf.v, .bool cf.b, .slice cf.a cf.n cf.c] 32 (hZ15.es.at' _ (zzG (i := 1) rfl)) rfl ag26 (by kernel_rfl) (hK _ _ ?_)))
 unfold Stop
 try simp only [Act.put, zzC, zzD, zzE]
 go_wp2_with (refine stop_opw (by kernel_rfl) (fun K hK => wp_lenq (.tmp 60) 26 27 pf rfl (by kernel_rfl) rfl (hZ15.get 5 (f := Mt (a + (b + r)) (fun _ => a + (b + r)) (mir c R) pf) rfl).n (hK _ _ ?_)))
 unfold Stop
 try simp only [Act.put, zzC, zzD, zzE]
 go_wp2_with (refine stop_opw (by kernel_rfl) (fun K hK => wp_subi (.tmp 61) (.tmp 62) rfl rfl rfl (C := ((b + r : Nat) : Int)) (by omega) (by omega) (by omega) (hK _ _ ?_)))
 unfold Stop
 try simp only [Act.put, zzC, zzD, zzE]
 go_wp2_with (refine stop_opw (by kernel_rfl) (fun K hK => wp_gtri (.tmp 58) (.tmp 63) rfl rfl rfl (r := false) (decide_eq_false (by omega)) (hK _ _ ?_)))
 unfold Stop
 try simp only [Act.put, zzC, zzD, zzE]
 go_wp2_with (refine stop_op rfl (fun K hK => wp_load 32 (.tmp 14) rfl bk1 0 4 #[pf.v, sf.v, .bool cf.b, .slice cf.a cf.n cf.c] #[pf.v, sf.v, .bool cf.b, .slice cf.a cf.n cf.c] 32 (hZ15.es.at' _ (zzG (i := 1) rfl)) rfl ag32 sz32 (zzF (by kernel_rfl)) (by kernel_rfl) (hK _ _ ?_)))
 unfold Stop
 try simp only [Act.put, zzC, zzD, zzE]
 go_wp2_with fail
 refine (uWoY hZ15.nx pf sf cf (k := a) (r := b + r) (e := 2) (hZ15.get 5 (f := Mt (a + (b + r)) (fun _ => a + (b + r)) (mir c R) pf) rfl) (hZ15.get 4 (f := Ls (a + (b + r)) (xl kx x) sf) rfl) (hZ15.get 3 (f := cf.is) rfl) ez_cf BPm BQm BCm (fun i j _ _ => mir_sym c R i j) (by omega) (by omega) (by omega) (by omega) HA.out HDa.out).mono ?_
 rintro zz W7 ⟨pg, sg, cg, dg, rfl, hi_pg, hi_sg, ez_cg, hi_cg, ez_dg, hi_dg, hB⟩
 have hZ16 := hZ15.later hB
 clear hB
 clear hZ15
 have hZ17 := hZ16.more (f := Mt (b + r) (fun _ => b + r) (lp a (mir c R)) pg) (Mt.stb _ _ _ _) hi_pg
 clear hZ16
 clear hi_pg
 have hZ18 := hZ17.more (f := Ls (b + r) (lq a (mir c R) (xl kx x)) sg) (Ls.stb _ _ _) hi_sg
 clear hZ17
 clear hi_sg
 have hZ19 := hZ18.more (f := cg.is) cg.stb hi_cg
 clear hZ18
 clear hi_cg
 have hZ20 := hZ19.more (f := dg.is) dg.stb hi_dg
 clear hZ19
 clear hi_dg
 go_wp2_with (refine stopz_alloc 32 #[.slice none 0 0, .slice none 0 0, .bool false, .slice none 0 0] (.agg #[.slice none 0 0, .slice none 0 0, .bool false, .slice none 0 0]) rfl rfl zv32 rfl hZ20 (fun bk3 X21 W8 hZ21 => ?_))
 clear hZ20
 unfold Stop
 try simp only [Act.put, zzC, zzD, zzE]
 go_wp2_with (refine stopz_alloc 30 #[.bool false, .slice none 0 0] (.agg #[.bool false, .slice none 0 0]) rfl rfl zv30 rfl hZ21 (fun bk4 X22 W9 hZ22 => ?_))
 clear hZ21
 unfold Stop
 try simp only [Act.put, zzC, zzD, zzE]
 go_wp2_with (refine stopz_store 32 (.tmp 17) (.tmp 71) 1 bk3 0 #[.slice none 0 0, .slice none 0 0, .bool false, .slice none 0 0] 32 4 [pg.v, sg.v, .bool cg.b, .slice cg.a cg.n cg.c] #[pg.v, sg.v, .bool cg.b, .slice cg.a cg.n cg.c] [(bk4, #[.bool false, .slice none 0 0], 30), (bk3, #[pg.v, sg.v, .bool cg.b, .slice cg.a cg.n cg.c], 32), (bk2, #[pd.v, sd.v, .bool cd.b, .slice cd.a cd.n cd.c], 45), (bk1, #[pf.v, sf.v, .bool cf.b, .slice cf.a cf.n cf.c], 32)] rfl rfl rfl rfl sz32 hZ22 rfl rfl (zzF (by kernel_rfl)) (by kernel_rfl) (by kernel_rfl) (by kernel_rfl) (fun W10 hZ23 => ?_))
 clear hZ22
 unfold Stop
 try simp only [Act.put, zzC, zzD, zzE]
 go_wp2_with (refine stopz_store 30 (.tmp 18) (.tmp 72) 0 bk4 0 #[.bool false, .slice none 0 0] 30 2 [.bool dg.b, .slice dg.a dg.n dg.c] #[.bool dg.b, .slice dg.a dg.n dg.c] [(bk4, #[.bool dg.b, .slice dg.a dg.n dg.c], 30), (bk3, #[pg.v, sg.v, .bool cg.b, .slice cg.a cg.n cg.c], 32), (bk2, #[pd.v, sd.v, .bool cd.b, .slice cd.a cd.n cd.c], 45), (bk1, #[pf.v, sf.v, .bool cf.b, .slice cf.a cf.n cf.c], 32)] rfl rfl rfl rfl sz30 hZ23 rfl rfl (zzF (by kernel_rfl)) (by kernel_rfl) (by kernel_rfl) (by kernel_rfl) (fun W11 hZ24 => ?_))
 clear hZ23
 unfold Stop
 try simp only [Act.put, zzC, zzD, zzE]
 go_wp2_with (refine stop_op rfl (fun K hK => wp_load 32 (.tmp 17) rfl bk3 0 4 #[pg.v, sg.v, .bool cg.b, .slice cg.a cg.n cg.c] #[pg.v, sg.v, .bool cg.b, .slice cg.a cg.n cg.c] 32 (hZ24.es.at' _ (zzG (i := 1) rfl)) rfl ag32 sz32 (zzF (by kernel_rfl)) (by kernel_rfl) (hK _ _ ?_)))
 unfold Stop
 try simp only [Act.put, zzC, zzD, zzE]
 go_wp2_with fail
 refine (uWoFlat hZ24.nx pg sg cg (k := b) (r := r) (e := (lpb 2 a)) (hZ24.get 3 (f := Mt (b + r) (fun _ => b + r) (lp a (mir c R)) pg) rfl) (hZ24.get 2 (f := Ls (b + r) (lq a (mir c R) (xl kx x)) sg) rfl) (hZ24.get 1 (f := cg.is) rfl) ez_cg BPg BQg BCg HSg.out (by omega) (by omega) (by omega) (by omega) HB.out).mono ?_
 rintro zz W12 ⟨rfl, hB⟩
 have hZ25 := hZ24.later hB
 clear hB
 clear hZ24
 go_wp2_with (refine stopz_alloc 32 #[.slice none 0 0, .slice none 0 0, .bool false, .slice none 0 0] (.agg #[.slice none 0 0, .slice none 0 0, .bool false, .slice none 0 0]) rfl rfl zv32 rfl hZ25 (fun bk5 X26 W13 hZ26 => ?_))
 clear hZ25
 unfold Stop
 try simp only [Act.put, zzC, zzD, zzE]
 go_wp2_with (refine stopz_alloc 30 #[.bool false, .slice none 0 0] (.agg #[.bool false, .slice none 0 0]) rfl rfl zv30 rfl hZ26 (fun bk6 X27 W14 hZ27 => ?_))
 clear hZ26
 unfold Stop
 try simp only [Act.put, zzC, zzD, zzE]
 go_wp2_with (refine stopz_store 32 (.tmp 20) (.tmp 81) 1 bk5 0 #[.slice none 0 0, .slice none 0 0, .bool false, .slice none 0 0] 32 4 [.slice none 0 0, .slice none 0 0, .bool false, .slice none 0 0] #[.slice none 0 0, .slice none 0 0, .bool false, .slice none 0 0] [(bk6, #[.bool false, .slice none 0 0], 30), (bk5, #[.slice none 0 0, .slice none 0 0, .bool false, .slice none 0 0], 32), (bk4, #[.bool dg.b, .slice dg.a dg.n dg.c], 30), (bk3, #[pg.v, sg.v, .bool cg.b, .slice cg.a cg.n cg.c], 32), (bk2, #[pd.v, sd.v, .bool cd.b, .slice cd.a cd.n cd.c], 45), (bk1, #[pf.v, sf.v, .bool cf.b, .slice cf.a cf.n cf.c], 32)] rfl rfl rfl rfl sz32 hZ27 rfl rfl (zzF (by kernel_rfl)) (by kernel_rfl) (by kernel_rfl) (by kernel_rfl) (fun W15 hZ28 => ?_))
 clear hZ27
 unfold Stop
 try simp only [Act.put, zzC, zzD, zzE]
 go_wp2_with (refine stopz_store 30 (.tmp 21) (.tmp 82) 0 bk6 0 #[.bool false, .slice none 0 0] 30 2 [.bool false, .slice none 0 0] #[.bool false, .slice none 0 0] [(bk6, #[.bool false, .slice none 0 0], 30), (bk5, #[.slice none 0 0, .slice none 0 0, .bool false, .slice none 0 0], 32), (bk4, #[.bool dg.b, .slice dg.a dg.n dg.c], 30), (bk3, #[pg.v, sg.v, .bool cg.b, .slice cg.a cg.n cg.c], 32), (bk2, #[pd.v, sd.v, .bool cd.b, .slice cd.a cd.n cd.c], 45), (bk1, #[pf.v, sf.v, .bool cf.b, .slice cf.a cf.n cf.c], 32)] rfl rfl rfl rfl sz30 hZ28 rfl rfl (zzF (by kernel_rfl)) (by kernel_rfl) (by kernel_rfl) (by kernel_rfl) (fun W16 hZ29 => ?_))
 clear hZ28
 unfold Stop
 try simp only [Act.put, zzC, zzD, zzE]
 go_wp2_with (refine stop_op rfl (fun K hK => wp_load 32 (.tmp 14) rfl bk1 0 4 #[pf.v, sf.v, .bool cf.b, .slice cf.a cf.n cf.c] #[pf.v, sf.v, .bool cf.b, .slice cf.a cf.n cf.c] 32 (hZ29.es.at' _ (zzG (i := 5) rfl)) rfl ag32 sz32 (zzF (by kernel_rfl)) (by kernel_rfl) (hK _ _ ?_)))
 unfold Stop
 try simp only [Act.put, zzC, zzD, zzE]
 go_wp2_with (refine stop_op rfl (fun K hK => wp_addi (.tmp 86) (.tmp 87) rfl rfl rfl (C := ((a + b : Nat) : Int)) (by omega) (by omega) (by omega) (hK _ _ ?_)))
 unfold Stop
 try simp only [Act.put, zzC, zzD, zzE]
 go_wp2_with fail
 refine (uWoFlat hZ29.nx pf sf cf (k := a + b) (r := r) (e := 2) (Mt.cast2 (show a + (b + r) = a + b + r by omega) (hZ29.get 9 (f := Mt (a + (b + r)) (fun _ => a + (b + r)) (mir c R) pf) rfl)) (Ls.cast (show a + (b + r) = a + b + r by omega) (hZ29.get 8 (f := Ls (a + (b + r)) (xl kx x) sf) rfl)) (hZ29.get 7 (f := cf.is) rfl) ez_cf BP2 BQ2 BCm (fun i j _ _ => mir_sym c R i j) (by omega) (by omega) (by omega) (by omega) HAB.out).mono ?_
 rintro zz W17 ⟨rfl, hB⟩
 have hZ30 := hZ29.later hB
 clear hB
 clear hZ29
 go_wp2_with (refine stopz_alloc 32 #[.slice none 0 0, .slice none 0 0, .bool false, .slice none 0 0] (.agg #[.slice none 0 0, .slice none 0 0, .bool false, .slice none 0 0]) rfl rfl zv32 rfl hZ30 (fun bk7 X31 W18 hZ31 => ?_))
 clear hZ30
 unfold Stop
 try simp only [Act.put, zzC, zzD, zzE]
 go_wp2_with (refine stopz_alloc 30 #[.bool false, .slice none 0 0] (.agg #[.bool false, .slice none 0 0]) rfl rfl zv30 rfl hZ31 (fun bk8 X32 W19 hZ32 => ?_))
 clear hZ31
 unfold Stop
 try simp only [Act.put, zzC, zzD, zzE]
 go_wp2_with (refine stopz_store 32 (.tmp 23) (.tmp 90) 1 bk7 0 #[.slice none 0 0, .slice none 0 0, .bool false, .slice none 0 0] 32 4 [.slice none 0 0, .slice none 0 0, .bool false, .slice none 0 0] #[.slice none 0 0, .slice none 0 0, .bool false, .slice none 0 0] [(bk8, #[.bool false, .slice none 0 0], 30), (bk7, #[.slice none 0 0, .slice none 0 0, .bool false, .slice none 0 0], 32), (bk6, #[.bool false, .slice none 0 0], 30), (bk5, #[.slice none 0 0, .slice none 0 0, .bool false, .slice none 0 0], 32), (bk4, #[.bool dg.b, .slice dg.a dg.n dg.c], 30), (bk3, #[pg.v, sg.v, .bool cg.b, .slice cg.a cg.n cg.c], 32), (bk2, #[pd.v, sd.v, .bool cd.b, .slice cd.a cd.n cd.c], 45), (bk1, #[pf.v, sf.v, .bool cf.b, .slice cf.a cf.n cf.c], 32)] rfl rfl rfl rfl sz32 hZ32 rfl rfl (zzF (by kernel_rfl)) (by kernel_rfl) (by kernel_rfl) (by kernel_rfl) (fun W20 hZ33 => ?_))
 clear hZ32
 unfold Stop
 try simp only [Act.put, zzC, zzD, zzE]
 go_wp2_with (refine stopz_store 30 (.tmp 24) (.tmp 91) 0 bk8 0 #[.bool false, .slice none 0 0] 30 2 [.bool false, .slice none 0 0] #[.bool false, .slice none 0 0] [(bk8, #[.bool false, .slice none 0 0], 30), (bk7, #[.slice none 0 0, .slice none 0 0, .bool false, .slice none 0 0], 32), (bk6, #[.bool false, .slice none 0 0], 30), (bk5, #[.slice none 0 0, .slice none 0 0, .bool false, .slice none 0 0], 32), (bk4, #[.bool dg.b, .slice dg.a dg.n dg.c], 30), (bk3, #[pg.v, sg.v, .bool cg.b, .slice cg.a cg.n cg.c], 32), (bk2, #[pd.v, sd.v, .bool cd.b, .slice cd.a cd.n cd.c], 45), (bk1, #[pf.v, sf.v, .bool cf.b, .slice cf.a cf.n cf.c], 32)] rfl rfl rfl rfl sz30 hZ33 rfl rfl (zzF (by kernel_rfl)) (by kernel_rfl) (by kernel_rfl) (by kernel_rfl) (fun W21 hZ34 => ?_))
 clear hZ33
 unfold Stop
 try simp only [Act.put, zzC, zzD, zzE]
 go_wp2
 go_ret
 exact ⟨rfl, hZ34.below⟩
end Go.Proofs.YtjclllindbfmhaaGreatDoor
