/- Parts of the proof. -/
import Derived.Test.YtjclllindbfmhaaGreatDoorHl0
import Derived.Test.YtjclllindbfmhaaGreatDoorHl37
import Derived.Test.YtjclllindbfmhaaGreatDoorHl39
/- The law QuadLeft of layer 8, walked. No statement of the seat is proved here. -/
namespace Go.Proofs.YtjclllindbfmhaaGreatDoor
open Go Go.RowKit
open Classical in
set_option maxRecDepth 100000 in
set_option maxHeartbeats 25600000 in
theorem ulf1 {X0 : Nat → Prop} {w : World} (hX : NX X0 w) (ra qa la : Sl) (m kx kl : Nat) (c : Nat → Nat) (R : Nat → Nat → Int) (x : Nat → Int) (cc : Int) (xl_ : Nat → Int) (hra : Mi m c R ra X0 w) (hqa : Li kx x qa X0 w) (hla : Li kl xl_ la X0 w) (rgR0 : ∀ i j, i < m → j < c i → -9223372036854775808 ≤ R i j ∧ R i j ≤ 9223372036854775807) (rgx0 : ∀ i, i < kx → -9223372036854775808 ≤ x i ∧ x i ≤ 9223372036854775807) (hcc : -9223372036854775808 ≤ cc ∧ cc ≤ 9223372036854775807) (rgl0 : ∀ i, i < kl → -9223372036854775808 ≤ xl_ i ∧ xl_ i ≤ 9223372036854775807) (n : Nat) (kk : Int) (hnm : n ≤ m) (hmin : (((m : Nat) : Int) ≤ ((7 : Nat) : Int) ∧ ((n : Nat) : Int) = ((m : Nat) : Int)) ∨ (((7 : Nat) : Int) < ((m : Nat) : Int) ∧ ((n : Nat) : Int) = ((7 : Nat) : Int))) (hnu : n ≤ 7) (hk : kk < 0) : Calls Tryz.prog 7 #[ra.v, qa.v, .int .i64 cc, la.v, .int .i64 kk] w (PVal (.bool true) w) := by
 have rgR := Lib.hid rgR0
 clear rgR0
 have rgx := Lib.hid rgx0
 clear rgx0
 have rgl := Lib.hid rgl0
 clear rgl0
 have BPm : ∀ i j, i < n → j < n → Sz 2 (mir c R i j) := (fun (i j : Nat) hi hj => sz_int (mir_in rgR.out (Nat.lt_of_lt_of_le hi hnm) (Nat.lt_of_lt_of_le hj hnm)).1 (mir_in rgR.out (Nat.lt_of_lt_of_le hi hnm) (Nat.lt_of_lt_of_le hj hnm)).2)
 have BQm : ∀ i, i < n → Sz 2 (xl kx x i) := fun i _ => xl_in rgx.out i
 have BCm : Sz 2 cc := sz_int hcc.1 hcc.2
 have BXm : ∀ i, Sz 2 (xl kl xl_ i) := fun i => xl_in rgl.out i
 have hZ0 := zs_start hX
 have hZ1 := hZ0.more (f := Li kl xl_ la) (Li.stb _ _ _) hla
 clear hZ0
 have hZ2 := hZ1.more (f := Li kx x qa) (Li.stb _ _ _) hqa
 clear hZ1
 have hZ3 := hZ2.more (f := Mi m c R ra) (Mi.stb _ _ _ _) hra
 clear hZ2
 go_enter Tryz.func7, Tryz.ntmps7
 go_wp2_with fail
 refine (uAwake hZ3.nx).mono ?_
 rintro zz W1 ⟨rfl, hB⟩
 have hZ4 := hZ3.later hB
 clear hB
 clear hZ3
 go_wp2_with fail
 refine (uRead hZ4.nx ra qa 7 n (hZ4.get 0 (f := Mi m c R ra) rfl) (hZ4.get 1 (f := Li kx x qa) rfl) rgR.out rgx.out hcc (by omega) hnm hmin).mono ?_
 rintro zz W2 ⟨pf, sf, cf, pd, sd, cd, rfl, hi_pf, hi_sf, ez_cf, hi_cf, hi_pd, hi_sd, ez_cd, hi_cd, hB⟩
 have hZ5 := hZ4.later hB
 clear hB
 clear hZ4
 have hZ6 := hZ5.more (f := Mt n (fun _ => n) (mir c R) pf) (Mt.stb _ _ _ _) hi_pf
 clear hZ5
 clear hi_pf
 have hZ7 := hZ6.more (f := Ls n (xl kx x) sf) (Ls.stb _ _ _) hi_sf
 clear hZ6
 clear hi_sf
 have hZ8 := hZ7.more (f := cf.is) cf.stb hi_cf
 clear hZ7
 clear hi_cf
 have hZ9 := hZ8.more (f := Mr n (fun _ => n) (mir c R) pd) (Mr.stb _ _ _ _) hi_pd
 clear hZ8
 clear hi_pd
 have hZ10 := hZ9.more (f := Lr n (xl kx x) sd) (Lr.stb _ _ _) hi_sd
 clear hZ9
 clear hi_sd
 have hZ11 := hZ10.more (f := cd.ir) cd.stbr hi_cd
 clear hZ10
 clear hi_cd
 go_wp2_with (refine stopz_alloc 32 #[.slice none 0 0, .slice none 0 0, .bool false, .slice none 0 0] (.agg #[.slice none 0 0, .slice none 0 0, .bool false, .slice none 0 0]) rfl rfl zv32 rfl hZ11 (fun bk1 X12 W3 hZ12 => ?_))
 clear hZ11
 unfold Stop
 try simp only [Act.put, zzC, zzD, zzE]
 go_wp2_with (refine stopz_alloc 45 #[.slice none 0 0, .slice none 0 0, .bool false, .slice none 0 0] (.agg #[.slice none 0 0, .slice none 0 0, .bool false, .slice none 0 0]) rfl rfl zv45 rfl hZ12 (fun bk2 X13 W4 hZ13 => ?_))
 clear hZ12
 unfold Stop
 try simp only [Act.put, zzC, zzD, zzE]
 go_wp2_with (refine stopz_store 32 (.tmp 12) (.tmp 37) 1 bk1 0 #[.slice none 0 0, .slice none 0 0, .bool false, .slice none 0 0] 32 4 [pf.v, sf.v, .bool cf.b, .slice cf.a cf.n cf.c] #[pf.v, sf.v, .bool cf.b, .slice cf.a cf.n cf.c] [(bk2, #[.slice none 0 0, .slice none 0 0, .bool false, .slice none 0 0], 45), (bk1, #[pf.v, sf.v, .bool cf.b, .slice cf.a cf.n cf.c], 32)] rfl rfl rfl rfl sz32 hZ13 rfl rfl (zzF (by kernel_rfl)) (by kernel_rfl) (by kernel_rfl) (by kernel_rfl) (fun W5 hZ14 => ?_))
 clear hZ13
 unfold Stop
 try simp only [Act.put, zzC, zzD, zzE]
 go_wp2_with (refine stopz_store 45 (.tmp 13) (.tmp 38) 0 bk2 0 #[.slice none 0 0, .slice none 0 0, .bool false, .slice none 0 0] 45 4 [pd.v, sd.v, .bool cd.b, .slice cd.a cd.n cd.c] #[pd.v, sd.v, .bool cd.b, .slice cd.a cd.n cd.c] [(bk2, #[pd.v, sd.v, .bool cd.b, .slice cd.a cd.n cd.c], 45), (bk1, #[pf.v, sf.v, .bool cf.b, .slice cf.a cf.n cf.c], 32)] rfl rfl rfl rfl sz45 hZ14 rfl rfl (zzF (by kernel_rfl)) (by kernel_rfl) (by kernel_rfl) (by kernel_rfl) (fun W6 hZ15 => ?_))
 clear hZ14
 unfold Stop
 try simp only [Act.put, zzC, zzD, zzE]
 go_wp2_with (refine stop_opw (by kernel_rfl) (fun K hK => wp_lssi (.tmp 43) (.const (.int .i64 0)) rfl rfl rfl (r := true) (decide_eq_true hk) (hK _ _ ?_)))
 unfold Stop
 try simp only [Act.put, zzC, zzD, zzE]
 go_wp2
 go_ret
 exact ⟨rfl, hZ15.below⟩
open Classical in
set_option maxRecDepth 100000 in
set_option maxHeartbeats 25600000 in
theorem ulf2 {X0 : Nat → Prop} {w : World} (hX : NX X0 w) (ra qa la : Sl) (m kx kl : Nat) (c : Nat → Nat) (R : Nat → Nat → Int) (x : Nat → Int) (cc : Int) (xl_ : Nat → Int) (hra : Mi m c R ra X0 w) (hqa : Li kx x qa X0 w) (hla : Li kl xl_ la X0 w) (rgR0 : ∀ i j, i < m → j < c i → -9223372036854775808 ≤ R i j ∧ R i j ≤ 9223372036854775807) (rgx0 : ∀ i, i < kx → -9223372036854775808 ≤ x i ∧ x i ≤ 9223372036854775807) (hcc : -9223372036854775808 ≤ cc ∧ cc ≤ 9223372036854775807) (rgl0 : ∀ i, i < kl → -9223372036854775808 ≤ xl_ i ∧ xl_ i ≤ 9223372036854775807) (n : Nat) (kk : Int) (hnm : n ≤ m) (hmin : (((m : Nat) : Int) ≤ ((7 : Nat) : Int) ∧ ((n : Nat) : Int) = ((m : Nat) : Int)) ∨ (((7 : Nat) : Int) < ((m : Nat) : Int) ∧ ((n : Nat) : Int) = ((7 : Nat) : Int))) (hnu : n ≤ 7) (hk : 0 ≤ kk) (hk2 : (n : Int) < kk) : Calls Tryz.prog 7 #[ra.v, qa.v, .int .i64 cc, la.v, .int .i64 kk] w (PVal (.bool true) w) := by
 have rgR := Lib.hid rgR0
 clear rgR0
 have rgx := Lib.hid rgx0
 clear rgx0
 have rgl := Lib.hid rgl0
 clear rgl0
 have BPm : ∀ i j, i < n → j < n → Sz 2 (mir c R i j) := (fun (i j : Nat) hi hj => sz_int (mir_in rgR.out (Nat.lt_of_lt_of_le hi hnm) (Nat.lt_of_lt_of_le hj hnm)).1 (mir_in rgR.out (Nat.lt_of_lt_of_le hi hnm) (Nat.lt_of_lt_of_le hj hnm)).2)
 have BQm : ∀ i, i < n → Sz 2 (xl kx x i) := fun i _ => xl_in rgx.out i
 have BCm : Sz 2 cc := sz_int hcc.1 hcc.2
 have BXm : ∀ i, Sz 2 (xl kl xl_ i) := fun i => xl_in rgl.out i
 have hZ0 := zs_start hX
 have hZ1 := hZ0.more (f := Li kl xl_ la) (Li.stb _ _ _) hla
 clear hZ0
 have hZ2 := hZ1.more (f := Li kx x qa) (Li.stb _ _ _) hqa
 clear hZ1
 have hZ3 := hZ2.more (f := Mi m c R ra) (Mi.stb _ _ _ _) hra
 clear hZ2
 go_enter Tryz.func7, Tryz.ntmps7
 go_wp2_with fail
 refine (uAwake hZ3.nx).mono ?_
 rintro zz W1 ⟨rfl, hB⟩
 have hZ4 := hZ3.later hB
 clear hB
 clear hZ3
 go_wp2_with fail
 refine (uRead hZ4.nx ra qa 7 n (hZ4.get 0 (f := Mi m c R ra) rfl) (hZ4.get 1 (f := Li kx x qa) rfl) rgR.out rgx.out hcc (by omega) hnm hmin).mono ?_
 rintro zz W2 ⟨pf, sf, cf, pd, sd, cd, rfl, hi_pf, hi_sf, ez_cf, hi_cf, hi_pd, hi_sd, ez_cd, hi_cd, hB⟩
 have hZ5 := hZ4.later hB
 clear hB
 clear hZ4
 have hZ6 := hZ5.more (f := Mt n (fun _ => n) (mir c R) pf) (Mt.stb _ _ _ _) hi_pf
 clear hZ5
 clear hi_pf
 have hZ7 := hZ6.more (f := Ls n (xl kx x) sf) (Ls.stb _ _ _) hi_sf
 clear hZ6
 clear hi_sf
 have hZ8 := hZ7.more (f := cf.is) cf.stb hi_cf
 clear hZ7
 clear hi_cf
 have hZ9 := hZ8.more (f := Mr n (fun _ => n) (mir c R) pd) (Mr.stb _ _ _ _) hi_pd
 clear hZ8
 clear hi_pd
 have hZ10 := hZ9.more (f := Lr n (xl kx x) sd) (Lr.stb _ _ _) hi_sd
 clear hZ9
 clear hi_sd
 have hZ11 := hZ10.more (f := cd.ir) cd.stbr hi_cd
 clear hZ10
 clear hi_cd
 go_wp2_with (refine stopz_alloc 32 #[.slice none 0 0, .slice none 0 0, .bool false, .slice none 0 0] (.agg #[.slice none 0 0, .slice none 0 0, .bool false, .slice none 0 0]) rfl rfl zv32 rfl hZ11 (fun bk1 X12 W3 hZ12 => ?_))
 clear hZ11
 unfold Stop
 try simp only [Act.put, zzC, zzD, zzE]
 go_wp2_with (refine stopz_alloc 45 #[.slice none 0 0, .slice none 0 0, .bool false, .slice none 0 0] (.agg #[.slice none 0 0, .slice none 0 0, .bool false, .slice none 0 0]) rfl rfl zv45 rfl hZ12 (fun bk2 X13 W4 hZ13 => ?_))
 clear hZ12
 unfold Stop
 try simp only [Act.put, zzC, zzD, zzE]
 go_wp2_with (refine stopz_store 32 (.tmp 12) (.tmp 37) 1 bk1 0 #[.slice none 0 0, .slice none 0 0, .bool false, .slice none 0 0] 32 4 [pf.v, sf.v, .bool cf.b, .slice cf.a cf.n cf.c] #[pf.v, sf.v, .bool cf.b, .slice cf.a cf.n cf.c] [(bk2, #[.slice none 0 0, .slice none 0 0, .bool false, .slice none 0 0], 45), (bk1, #[pf.v, sf.v, .bool cf.b, .slice cf.a cf.n cf.c], 32)] rfl rfl rfl rfl sz32 hZ13 rfl rfl (zzF (by kernel_rfl)) (by kernel_rfl) (by kernel_rfl) (by kernel_rfl) (fun W5 hZ14 => ?_))
 clear hZ13
 unfold Stop
 try simp only [Act.put, zzC, zzD, zzE]
 go_wp2_with (refine stopz_store 45 (.tmp 13) (.tmp 38) 0 bk2 0 #[.slice none 0 0, .slice none 0 0, .bool false, .slice none 0 0] 45 4 [pd.v, sd.v, .bool cd.b, .slice cd.a cd.n cd.c] #[pd.v, sd.v, .bool cd.b, .slice cd.a cd.n cd.c] [(bk2, #[pd.v, sd.v, .bool cd.b, .slice cd.a cd.n cd.c], 45), (bk1, #[pf.v, sf.v, .bool cf.b, .slice cf.a cf.n cf.c], 32)] rfl rfl rfl rfl sz45 hZ14 rfl rfl (zzF (by kernel_rfl)) (by kernel_rfl) (by kernel_rfl) (by kernel_rfl) (fun W6 hZ15 => ?_))
 clear hZ14
 unfold Stop
 try simp only [Act.put, zzC, zzD, zzE]
 go_wp2_with (refine stop_opw (by kernel_rfl) (fun K hK => wp_lssi (.tmp 43) (.const (.int .i64 0)) rfl rfl rfl (r := false) (decide_eq_false (by omega)) (hK _ _ ?_)))
 unfold Stop
 try simp only [Act.put, zzC, zzD, zzE]
 go_wp2_with (refine stop_opw (by kernel_rfl) (fun K hK => wp_fda (v := .pointer (some ⟨bk1, 0, none⟩)) 32 (.tmp 12) 0 rfl rfl (fun _ => by kernel_rfl) (hK _ _ ?_)))
 unfold Stop
 try simp only [Act.put, zzC, zzD, zzE]
 go_wp2_with (refine stop_opw (by kernel_rfl) (fun K hK => wp_load1 (v := pf.v) 26 (.tmp 48) rfl bk1 0 #[pf.v, sf.v, .bool cf.b, .slice cf.a cf.n cf.c] 32 (hZ15.es.at' _ (zzG (i := 1) rfl)) rfl ag26 (by kernel_rfl) (hK _ _ ?_)))
 unfold Stop
 try simp only [Act.put, zzC, zzD, zzE]
 go_wp2_with (refine stop_opw (by kernel_rfl) (fun K hK => wp_lenq (.tmp 49) 26 27 pf rfl (by kernel_rfl) rfl (hZ15.get 5 (f := Mt n (fun _ => n) (mir c R) pf) rfl).n (hK _ _ ?_)))
 unfold Stop
 try simp only [Act.put, zzC, zzD, zzE]
 go_wp2_with (refine stop_opw (by kernel_rfl) (fun K hK => wp_gtri (.tmp 47) (.tmp 50) rfl rfl rfl (r := true) (decide_eq_true hk2) (hK _ _ ?_)))
 unfold Stop
 try simp only [Act.put, zzC, zzD, zzE]
 go_wp2
 go_ret
 exact ⟨rfl, hZ15.below⟩
open Classical in
set_option maxRecDepth 100000 in
set_option maxHeartbeats 25600000 in
theorem ulf3 {X0 : Nat → Prop} {w : World} (hX : NX X0 w) (ra qa la : Sl) (m kx kl : Nat) (c : Nat → Nat) (R : Nat → Nat → Int) (x : Nat → Int) (cc : Int) (xl_ : Nat → Int) (hra : Mi m c R ra X0 w) (hqa : Li kx x qa X0 w) (hla : Li kl xl_ la X0 w) (rgR0 : ∀ i j, i < m → j < c i → -9223372036854775808 ≤ R i j ∧ R i j ≤ 9223372036854775807) (rgx0 : ∀ i, i < kx → -9223372036854775808 ≤ x i ∧ x i ≤ 9223372036854775807) (hcc : -9223372036854775808 ≤ cc ∧ cc ≤ 9223372036854775807) (rgl0 : ∀ i, i < kl → -9223372036854775808 ≤ xl_ i ∧ xl_ i ≤ 9223372036854775807) (k r : Nat) (hnm : k + r ≤ m) (hmin : (((m : Nat) : Int) ≤ ((7 : Nat) : Int) ∧ ((k + r : Nat) : Int) = ((m : Nat) : Int)) ∨ (((7 : Nat) : Int) < ((m : Nat) : Int) ∧ ((k + r : Nat) : Int) = ((7 : Nat) : Int))) (hnu : k + r ≤ 7) (ho : ¬ (Sym k (mir c R) ∧ ∀ i, i < k → 0 < M.dt (i + 1) (mir c R))) : Calls Tryz.prog 7 #[ra.v, qa.v, .int .i64 cc, la.v, .int .i64 ((k : Nat) : Int)] w (PVal (.bool true) w) := by
 have rgR := Lib.hid rgR0
 clear rgR0
 have rgx := Lib.hid rgx0
 clear rgx0
 have rgl := Lib.hid rgl0
 clear rgl0
 have BPm : ∀ i j, i < k + r → j < k + r → Sz 2 (mir c R i j) := (fun (i j : Nat) hi hj => sz_int (mir_in rgR.out (Nat.lt_of_lt_of_le hi hnm) (Nat.lt_of_lt_of_le hj hnm)).1 (mir_in rgR.out (Nat.lt_of_lt_of_le hi hnm) (Nat.lt_of_lt_of_le hj hnm)).2)
 have BQm : ∀ i, i < k + r → Sz 2 (xl kx x i) := fun i _ => xl_in rgx.out i
 have BCm : Sz 2 cc := sz_int hcc.1 hcc.2
 have BXm : ∀ i, Sz 2 (xl kl xl_ i) := fun i => xl_in rgl.out i
 have hZ0 := zs_start hX
 have hZ1 := hZ0.more (f := Li kl xl_ la) (Li.stb _ _ _) hla
 clear hZ0
 have hZ2 := hZ1.more (f := Li kx x qa) (Li.stb _ _ _) hqa
 clear hZ1
 have hZ3 := hZ2.more (f := Mi m c R ra) (Mi.stb _ _ _ _) hra
 clear hZ2
 go_enter Tryz.func7, Tryz.ntmps7
 have HO := Lib.hid ho
 clear ho
 have hdb : dtb 2 k ≤ 3000 := dtb_le (by omega) (by omega)
 have hlb : lpb 2 k ≤ 150 := lpb_le (by omega)
 go_wp2_with fail
 refine (uAwake hZ3.nx).mono ?_
 rintro zz W1 ⟨rfl, hB⟩
 have hZ4 := hZ3.later hB
 clear hB
 clear hZ3
 go_wp2_with fail
 refine (uRead hZ4.nx ra qa 7 (k + r) (hZ4.get 0 (f := Mi m c R ra) rfl) (hZ4.get 1 (f := Li kx x qa) rfl) rgR.out rgx.out hcc (by omega) hnm hmin).mono ?_
 rintro zz W2 ⟨pf, sf, cf, pd, sd, cd, rfl, hi_pf, hi_sf, ez_cf, hi_cf, hi_pd, hi_sd, ez_cd, hi_cd, hB⟩
 have hZ5 := hZ4.later hB
 clear hB
 clear hZ4
 have hZ6 := hZ5.more (f := Mt (k + r) (fun _ => k + r) (mir c R) pf) (Mt.stb _ _ _ _) hi_pf
 clear hZ5
 clear hi_pf
 have hZ7 := hZ6.more (f := Ls (k + r) (xl kx x) sf) (Ls.stb _ _ _) hi_sf
 clear hZ6
 clear hi_sf
 have hZ8 := hZ7.more (f := cf.is) cf.stb hi_cf
 clear hZ7
 clear hi_cf
 have hZ9 := hZ8.more (f := Mr (k + r) (fun _ => k + r) (mir c R) pd) (Mr.stb _ _ _ _) hi_pd
 clear hZ8
 clear hi_pd
 have hZ10 := hZ9.more (f := Lr (k + r) (xl kx x) sd) (Lr.stb _ _ _) hi_sd
 clear hZ9
 clear hi_sd
 have hZ11 := hZ10.more (f := cd.ir) cd.stbr hi_cd
 clear hZ10
 clear hi_cd
 go_wp2_with (refine stopz_alloc 32 #[.slice none 0 0, .slice none 0 0, .bool false, .slice none 0 0] (.agg #[.slice none 0 0, .slice none 0 0, .bool false, .slice none 0 0]) rfl rfl zv32 rfl hZ11 (fun bk1 X12 W3 hZ12 => ?_))
 clear hZ11
 unfold Stop
 try simp only [Act.put, zzC, zzD, zzE]
 go_wp2_with (refine stopz_alloc 45 #[.slice none 0 0, .slice none 0 0, .bool false, .slice none 0 0] (.agg #[.slice none 0 0, .slice none 0 0, .bool false, .slice none 0 0]) rfl rfl zv45 rfl hZ12 (fun bk2 X13 W4 hZ13 => ?_))
 clear hZ12
 unfold Stop
 try simp only [Act.put, zzC, zzD, zzE]
 go_wp2_with (refine stopz_store 32 (.tmp 12) (.tmp 37) 1 bk1 0 #[.slice none 0 0, .slice none 0 0, .bool false, .slice none 0 0] 32 4 [pf.v, sf.v, .bool cf.b, .slice cf.a cf.n cf.c] #[pf.v, sf.v, .bool cf.b, .slice cf.a cf.n cf.c] [(bk2, #[.slice none 0 0, .slice none 0 0, .bool false, .slice none 0 0], 45), (bk1, #[pf.v, sf.v, .bool cf.b, .slice cf.a cf.n cf.c], 32)] rfl rfl rfl rfl sz32 hZ13 rfl rfl (zzF (by kernel_rfl)) (by kernel_rfl) (by kernel_rfl) (by kernel_rfl) (fun W5 hZ14 => ?_))
 clear hZ13
 unfold Stop
 try simp only [Act.put, zzC, zzD, zzE]
 go_wp2_with (refine stopz_store 45 (.tmp 13) (.tmp 38) 0 bk2 0 #[.slice none 0 0, .slice none 0 0, .bool false, .slice none 0 0] 45 4 [pd.v, sd.v, .bool cd.b, .slice cd.a cd.n cd.c] #[pd.v, sd.v, .bool cd.b, .slice cd.a cd.n cd.c] [(bk2, #[pd.v, sd.v, .bool cd.b, .slice cd.a cd.n cd.c], 45), (bk1, #[pf.v, sf.v, .bool cf.b, .slice cf.a cf.n cf.c], 32)] rfl rfl rfl rfl sz45 hZ14 rfl rfl (zzF (by kernel_rfl)) (by kernel_rfl) (by kernel_rfl) (by kernel_rfl) (fun W6 hZ15 => ?_))
 clear hZ14
 unfold Stop
 try simp only [Act.put, zzC, zzD, zzE]
 go_wp2_with (refine stop_opw (by kernel_rfl) (fun K hK => wp_lssi (.tmp 43) (.const (.int .i64 0)) rfl rfl rfl (r := false) (decide_eq_false (by omega)) (hK _ _ ?_)))
 unfold Stop
 try simp only [Act.put, zzC, zzD, zzE]
 go_wp2_with (refine stop_opw (by kernel_rfl) (fun K hK => wp_fda (v := .pointer (some ⟨bk1, 0, none⟩)) 32 (.tmp 12) 0 rfl rfl (fun _ => by kernel_rfl) (hK _ _ ?_)))
 unfold Stop
 try simp only [Act.put, zzC, zzD, zzE]
 go_wp2_with (refine stop_opw (by kernel_rfl) (fun K hK => wp_load1 (v := pf.v) 26 (.tmp 48) rfl bk1 0 #[pf.v, sf.v, .bool cf.b, .slice cf.a cf.n cf.c] 32 (hZ15.es.at' _ (zzG (i := 1) rfl)) rfl ag26 (by kernel_rfl) (hK _ _ ?_)))
 unfold Stop
 try simp only [Act.put, zzC, zzD, zzE]
 go_wp2_with (refine stop_opw (by kernel_rfl) (fun K hK => wp_lenq (.tmp 49) 26 27 pf rfl (by kernel_rfl) rfl (hZ15.get 5 (f := Mt (k + r) (fun _ => k + r) (mir c R) pf) rfl).n (hK _ _ ?_)))
 unfold Stop
 try simp only [Act.put, zzC, zzD, zzE]
 go_wp2_with (refine stop_opw (by kernel_rfl) (fun K hK => wp_gtri (.tmp 47) (.tmp 50) rfl rfl rfl (r := false) (decide_eq_false (by omega)) (hK _ _ ?_)))
 unfold Stop
 try simp only [Act.put, zzC, zzD, zzE]
 go_wp2_with (refine stop_op rfl (fun K hK => wp_load 32 (.tmp 12) rfl bk1 0 4 #[pf.v, sf.v, .bool cf.b, .slice cf.a cf.n cf.c] #[pf.v, sf.v, .bool cf.b, .slice cf.a cf.n cf.c] 32 (hZ15.es.at' _ (zzG (i := 1) rfl)) rfl ag32 sz32 (zzF (by kernel_rfl)) (by kernel_rfl) (hK _ _ ?_)))
 unfold Stop
 try simp only [Act.put, zzC, zzD, zzE]
 go_wp2_with fail
 refine (uWoFlat hZ15.nx pf sf cf (k := k) (r := r) (e := 2) (hZ15.get 5 (f := Mt (k + r) (fun _ => k + r) (mir c R) pf) rfl) (hZ15.get 4 (f := Ls (k + r) (xl kx x) sf) rfl) (hZ15.get 3 (f := cf.is) rfl) ez_cf BPm BQm BCm (fun i j _ _ => mir_sym c R i j) (by omega) (by omega) (by omega) (by omega) HO.out).mono ?_
 rintro zz W7 ⟨rfl, hB⟩
 have hZ16 := hZ15.later hB
 clear hB
 clear hZ15
 go_wp2_with (refine stopz_alloc 32 #[.slice none 0 0, .slice none 0 0, .bool false, .slice none 0 0] (.agg #[.slice none 0 0, .slice none 0 0, .bool false, .slice none 0 0]) rfl rfl zv32 rfl hZ16 (fun bk3 X17 W8 hZ17 => ?_))
 clear hZ16
 unfold Stop
 try simp only [Act.put, zzC, zzD, zzE]
 go_wp2_with (refine stopz_alloc 30 #[.bool false, .slice none 0 0] (.agg #[.bool false, .slice none 0 0]) rfl rfl zv30 rfl hZ17 (fun bk4 X18 W9 hZ18 => ?_))
 clear hZ17
 unfold Stop
 try simp only [Act.put, zzC, zzD, zzE]
 go_wp2_with (refine stopz_store 32 (.tmp 15) (.tmp 58) 1 bk3 0 #[.slice none 0 0, .slice none 0 0, .bool false, .slice none 0 0] 32 4 [.slice none 0 0, .slice none 0 0, .bool false, .slice none 0 0] #[.slice none 0 0, .slice none 0 0, .bool false, .slice none 0 0] [(bk4, #[.bool false, .slice none 0 0], 30), (bk3, #[.slice none 0 0, .slice none 0 0, .bool false, .slice none 0 0], 32), (bk2, #[pd.v, sd.v, .bool cd.b, .slice cd.a cd.n cd.c], 45), (bk1, #[pf.v, sf.v, .bool cf.b, .slice cf.a cf.n cf.c], 32)] rfl rfl rfl rfl sz32 hZ18 rfl rfl (zzF (by kernel_rfl)) (by kernel_rfl) (by kernel_rfl) (by kernel_rfl) (fun W10 hZ19 => ?_))
 clear hZ18
 unfold Stop
 try simp only [Act.put, zzC, zzD, zzE]
 go_wp2_with (refine stopz_store 30 (.tmp 16) (.tmp 59) 0 bk4 0 #[.bool false, .slice none 0 0] 30 2 [.bool false, .slice none 0 0] #[.bool false, .slice none 0 0] [(bk4, #[.bool false, .slice none 0 0], 30), (bk3, #[.slice none 0 0, .slice none 0 0, .bool false, .slice none 0 0], 32), (bk2, #[pd.v, sd.v, .bool cd.b, .slice cd.a cd.n cd.c], 45), (bk1, #[pf.v, sf.v, .bool cf.b, .slice cf.a cf.n cf.c], 32)] rfl rfl rfl rfl sz30 hZ19 rfl rfl (zzF (by kernel_rfl)) (by kernel_rfl) (by kernel_rfl) (by kernel_rfl) (fun W11 hZ20 => ?_))
 clear hZ19
 unfold Stop
 try simp only [Act.put, zzC, zzD, zzE]
 go_wp2
 go_ret
 exact ⟨rfl, hZ20.below⟩
end Go.Proofs.YtjclllindbfmhaaGreatDoor
