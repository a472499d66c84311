/- Parts of the proof. -/
import Derived.Test.YtjclllindbfmhaaGreatDoorHl0
import Derived.Test.YtjclllindbfmhaaGreatDoorHl37
import Derived.Test.YtjclllindbfmhaaGreatDoorHl39
import Derived.Test.YtjclllindbfmhaaGreatDoorHl40
/- The law QuadLeft of layer 8, walked. No statement of the seat is proved here. -/
namespace Go.Proofs.YtjclllindbfmhaaGreatDoor
open Go Go.RowKit
open Classical in
set_option maxRecDepth 100000 in
set_option maxHeartbeats 25600000 in
theorem ulf4 {X0 : Nat → Prop} {w : World} (hX : NX X0 w) (ra qa la : Sl) (m kx kl : Nat) (c : Nat → Nat) (R : Nat → Nat → Int) (x : Nat → Int) (cc : Int) (xl_ : Nat → Int) (hra : Mi m c R ra X0 w) (hqa : Li kx x qa X0 w) (hla : Li kl xl_ la X0 w) (rgR0 : ∀ i j, i < m → j < c i → -9223372036854775808 ≤ R i j ∧ R i j ≤ 9223372036854775807) (rgx0 : ∀ i, i < kx → -9223372036854775808 ≤ x i ∧ x i ≤ 9223372036854775807) (hcc : -9223372036854775808 ≤ cc ∧ cc ≤ 9223372036854775807) (rgl0 : ∀ i, i < kl → -9223372036854775808 ≤ xl_ i ∧ xl_ i ≤ 9223372036854775807) (k r : Nat) (hnm : k + r ≤ m) (hmin : (((m : Nat) : Int) ≤ ((7 : Nat) : Int) ∧ ((k + r : Nat) : Int) = ((m : Nat) : Int)) ∨ (((7 : Nat) : Int) < ((m : Nat) : Int) ∧ ((k + r : Nat) : Int) = ((7 : Nat) : Int))) (hnu : k + r ≤ 7) (ho : (Sym k (mir c R) ∧ ∀ i, i < k → 0 < M.dt (i + 1) (mir c R))) : Calls Tryz.prog 7 #[ra.v, qa.v, .int .i64 cc, la.v, .int .i64 ((k : Nat) : Int)] w (PVal (.bool true) w) := by
 have rgR := Lib.hid rgR0
 clear rgR0
 have rgx := Lib.hid rgx0
 clear rgx0
 have rgl := Lib.hid rgl0
 clear rgl0
 have BPm : ∀ i j, i < k + r → j < k + r → Sz 2 (mir c R i j) := (fun (i j : Nat) hi hj => sz_int (mir_in rgR.out (Nat.lt_of_lt_of_le hi hnm) (Nat.lt_of_lt_of_le hj hnm)).1 (mir_in rgR.out (Nat.lt_of_lt_of_le hi hnm) (Nat.lt_of_lt_of_le hj hnm)).2)
 have BQm : ∀ i, i < k + r → Sz 2 (xl kx x i) := fun i _ => xl_in rgx.out i
 have BCm : Sz 2 cc := sz_int hcc.1 hcc.2
 have BXm : ∀ i, Sz 2 (xl kl xl_ i) := fun i => xl_in rgl.out i
 have hZ0 := zs_start hX
 have hZ1 := hZ0.more (f := Li kl xl_ la) (Li.stb _ _ _) hla
 clear hZ0
 have hZ2 := hZ1.more (f := Li kx x qa) (Li.stb _ _ _) hqa
 clear hZ1
 have hZ3 := hZ2.more (f := Mi m c R ra) (Mi.stb _ _ _ _) hra
 clear hZ2
 go_enter Tryz.func7, Tryz.ntmps7
 have HO := Lib.hid ho
 clear ho
 have hdb : dtb 2 k ≤ 3000 := dtb_le (by omega) (by omega)
 have hlb : lpb 2 k ≤ 150 := lpb_le (by omega)
 go_wp2_with fail
 refine (uAwake hZ3.nx).mono ?_
 rintro zz W1 ⟨rfl, hB⟩
 have hZ4 := hZ3.later hB
 clear hB
 clear hZ3
 go_wp2_with fail
 refine (uRead hZ4.nx ra qa 7 (k + r) (hZ4.get 0 (f := Mi m c R ra) rfl) (hZ4.get 1 (f := Li kx x qa) rfl) rgR.out rgx.out hcc (by omega) hnm hmin).mono ?_
 rintro zz W2 ⟨pf, sf, cf, pd, sd, cd, rfl, hi_pf, hi_sf, ez_cf, hi_cf, hi_pd, hi_sd, ez_cd, hi_cd, hB⟩
 have hZ5 := hZ4.later hB
 clear hB
 clear hZ4
 have hZ6 := hZ5.more (f := Mt (k + r) (fun _ => k + r) (mir c R) pf) (Mt.stb _ _ _ _) hi_pf
 clear hZ5
 clear hi_pf
 have hZ7 := hZ6.more (f := Ls (k + r) (xl kx x) sf) (Ls.stb _ _ _) hi_sf
 clear hZ6
 clear hi_sf
 have hZ8 := hZ7.more (f := cf.is) cf.stb hi_cf
 clear hZ7
 clear hi_cf
 have hZ9 := hZ8.more (f := Mr (k + r) (fun _ => k + r) (mir c R) pd) (Mr.stb _ _ _ _) hi_pd
 clear hZ8
 clear hi_pd
 have hZ10 := hZ9.more (f := Lr (k + r) (xl kx x) sd) (Lr.stb _ _ _) hi_sd
 clear hZ9
 clear hi_sd
 have hZ11 := hZ10.more (f := cd.ir) cd.stbr hi_cd
 clear hZ10
 clear hi_cd
 go_wp2_with (refine stopz_alloc 32 #[.slice none 0 0, .slice none 0 0, .bool false, .slice none 0 0] (.agg #[.slice none 0 0, .slice none 0 0, .bool false, .slice none 0 0]) rfl rfl zv32 rfl hZ11 (fun bk1 X12 W3 hZ12 => ?_))
 clear hZ11
 unfold Stop
 try simp only [Act.put, zzC, zzD, zzE]
 go_wp2_with (refine stopz_alloc 45 #[.slice none 0 0, .slice none 0 0, .bool false, .slice none 0 0] (.agg #[.slice none 0 0, .slice none 0 0, .bool false, .slice none 0 0]) rfl rfl zv45 rfl hZ12 (fun bk2 X13 W4 hZ13 => ?_))
 clear hZ12
 unfold Stop
 try simp only [Act.put, zzC, zzD, zzE]
 go_wp2_with (refine stopz_store 32 (.tmp 12) (.tmp 37) 1 bk1 0 #[.slice none 0 0, .slice none 0 0, .bool false, .slice none 0 0] 32 4 [pf.v, sf.v, .bool cf.b, .slice cf.a cf.n cf.c] #[pf.v, sf.v, .bool cf.b, .slice cf.a cf.n cf.c] [(bk2, #[.slice none 0 0, .slice none 0 0, .bool false, .slice none 0 0], 45), (bk1, #[pf.v, sf.v, .bool cf.b, .slice cf.a cf.n cf.c], 32)] rfl rfl rfl rfl sz32 hZ13 rfl rfl (zzF (by kernel_rfl)) (by kernel_rfl) (by kernel_rfl) (by kernel_rfl) (fun W5 hZ14 => ?_))
 clear hZ13
 unfold Stop
 try simp only [Act.put, zzC, zzD, zzE]
 go_wp2_with (refine stopz_store 45 (.tmp 13) (.tmp 38) 0 bk2 0 #[.slice none 0 0, .slice none 0 0, .bool false, .slice none 0 0] 45 4 [pd.v, sd.v, .bool cd.b, .slice cd.a cd.n cd.c] #[pd.v, sd.v, .bool cd.b, .slice cd.a cd.n cd.c] [(bk2, #[pd.v, sd.v, .bool cd.b, .slice cd.a cd.n cd.c], 45), (bk1, #[pf.v, sf.v, .bool cf.b, .slice cf.a cf.n cf.c], 32)] rfl rfl rfl rfl sz45 hZ14 rfl rfl (zzF (by kernel_rfl)) (by kernel_rfl) (by kernel_rfl) (by kernel_rfl) (fun W6 hZ15 => ?_))
 clear hZ14
 unfold Stop
 try simp only [Act.put, zzC, zzD, zzE]
 go_wp2_with (refine stop_opw (by kernel_rfl) (fun K hK => wp_lssi (.tmp 43) (.const (.int .i64 0)) rfl rfl rfl (r := false) (decide_eq_false (by omega)) (hK _ _ ?_)))
 unfold Stop
 try simp only [Act.put, zzC, zzD, zzE]
 go_wp2_with (refine stop_opw (by kernel_rfl) (fun K hK => wp_fda (v := .pointer (some ⟨bk1, 0, none⟩)) 32 (.tmp 12) 0 rfl rfl (fun _ => by kernel_rfl) (hK _ _ ?_)))
 unfold Stop
 try simp only [Act.put, zzC, zzD, zzE]
 go_wp2_with (refine stop_opw (by kernel_rfl) (fun K hK => wp_load1 (v := pf.v) 26 (.tmp 48) rfl bk1 0 #[pf.v, sf.v, .bool cf.b, .slice cf.a cf.n cf.c] 32 (hZ15.es.at' _ (zzG (i := 1) rfl)) rfl ag26 (by kernel_rfl) (hK _ _ ?_)))
 unfold Stop
 try simp only [Act.put, zzC, zzD, zzE]
 go_wp2_with (refine stop_opw (by kernel_rfl) (fun K hK => wp_lenq (.tmp 49) 26 27 pf rfl (by kernel_rfl) rfl (hZ15.get 5 (f := Mt (k + r) (fun _ => k + r) (mir c R) pf) rfl).n (hK _ _ ?_)))
 unfold Stop
 try simp only [Act.put, zzC, zzD, zzE]
 go_wp2_with (refine stop_opw (by kernel_rfl) (fun K hK => wp_gtri (.tmp 47) (.tmp 50) rfl rfl rfl (r := false) (decide_eq_false (by omega)) (hK _ _ ?_)))
 unfold Stop
 try simp only [Act.put, zzC, zzD, zzE]
 go_wp2_with (refine stop_op rfl (fun K hK => wp_load 32 (.tmp 12) rfl bk1 0 4 #[pf.v, sf.v, .bool cf.b, .slice cf.a cf.n cf.c] #[pf.v, sf.v, .bool cf.b, .slice cf.a cf.n cf.c] 32 (hZ15.es.at' _ (zzG (i := 1) rfl)) rfl ag32 sz32 (zzF (by kernel_rfl)) (by kernel_rfl) (hK _ _ ?_)))
 unfold Stop
 try simp only [Act.put, zzC, zzD, zzE]
 go_wp2_with fail
 refine (uWoY hZ15.nx pf sf cf (k := k) (r := r) (e := 2) (hZ15.get 5 (f := Mt (k + r) (fun _ => k + r) (mir c R) pf) rfl) (hZ15.get 4 (f := Ls (k + r) (xl kx x) sf) rfl) (hZ15.get 3 (f := cf.is) rfl) ez_cf BPm BQm BCm (fun i j _ _ => mir_sym c R i j) (by omega) (by omega) (by omega) (by omega) HO.out (Int.ne_of_gt (dt_pos HO.out))).mono ?_
 rintro zz W7 ⟨pg, sg, cg, dg, rfl, hi_pg, hi_sg, ez_cg, hi_cg, ez_dg, hi_dg, hB⟩
 have hZ16 := hZ15.later hB
 clear hB
 clear hZ15
 have hZ17 := hZ16.more (f := Mt r (fun _ => r) (lp k (mir c R)) pg) (Mt.stb _ _ _ _) hi_pg
 clear hZ16
 clear hi_pg
 have hZ18 := hZ17.more (f := Ls r (lq k (mir c R) (xl kx x)) sg) (Ls.stb _ _ _) hi_sg
 clear hZ17
 clear hi_sg
 have hZ19 := hZ18.more (f := cg.is) cg.stb hi_cg
 clear hZ18
 clear hi_cg
 have hZ20 := hZ19.more (f := dg.is) dg.stb hi_dg
 clear hZ19
 clear hi_dg
 go_wp2_with (refine stopz_alloc 32 #[.slice none 0 0, .slice none 0 0, .bool false, .slice none 0 0] (.agg #[.slice none 0 0, .slice none 0 0, .bool false, .slice none 0 0]) rfl rfl zv32 rfl hZ20 (fun bk3 X21 W8 hZ21 => ?_))
 clear hZ20
 unfold Stop
 try simp only [Act.put, zzC, zzD, zzE]
 go_wp2_with (refine stopz_alloc 30 #[.bool false, .slice none 0 0] (.agg #[.bool false, .slice none 0 0]) rfl rfl zv30 rfl hZ21 (fun bk4 X22 W9 hZ22 => ?_))
 clear hZ21
 unfold Stop
 try simp only [Act.put, zzC, zzD, zzE]
 go_wp2_with (refine stopz_store 32 (.tmp 15) (.tmp 58) 1 bk3 0 #[.slice none 0 0, .slice none 0 0, .bool false, .slice none 0 0] 32 4 [pg.v, sg.v, .bool cg.b, .slice cg.a cg.n cg.c] #[pg.v, sg.v, .bool cg.b, .slice cg.a cg.n cg.c] [(bk4, #[.bool false, .slice none 0 0], 30), (bk3, #[pg.v, sg.v, .bool cg.b, .slice cg.a cg.n cg.c], 32), (bk2, #[pd.v, sd.v, .bool cd.b, .slice cd.a cd.n cd.c], 45), (bk1, #[pf.v, sf.v, .bool cf.b, .slice cf.a cf.n cf.c], 32)] rfl rfl rfl rfl sz32 hZ22 rfl rfl (zzF (by kernel_rfl)) (by kernel_rfl) (by kernel_rfl) (by kernel_rfl) (fun W10 hZ23 => ?_))
 clear hZ22
 unfold Stop
 try simp only [Act.put, zzC, zzD, zzE]
 go_wp2_with (refine stopz_store 30 (.tmp 16) (.tmp 59) 0 bk4 0 #[.bool false, .slice none 0 0] 30 2 [.bool dg.b, .slice dg.a dg.n dg.c] #[.bool dg.b, .slice dg.a dg.n dg.c] [(bk4, #[.bool dg.b, .slice dg.a dg.n dg.c], 30), (bk3, #[pg.v, sg.v, .bool cg.b, .slice cg.a cg.n cg.c], 32), (bk2, #[pd.v, sd.v, .bool cd.b, .slice cd.a cd.n cd.c], 45), (bk1, #[pf.v, sf.v, .bool cf.b, .slice cf.a cf.n cf.c], 32)] rfl rfl rfl rfl sz30 hZ23 rfl rfl (zzF (by kernel_rfl)) (by kernel_rfl) (by kernel_rfl) (by kernel_rfl) (fun W11 hZ24 => ?_))
 clear hZ23
 unfold Stop
 try simp only [Act.put, zzC, zzD, zzE]
 have BKm : ∀ i j, i < k → j < k → Sz 2 (mir c R i j) := fun i j hi hj => BPm i j (by omega) (by omega)
 have BK6 : ∀ i j, i < k → j < k → Sz 60 (mir c R i j) := fun i j hi hj => (BKm i j hi hj).mono (by omega)
 have BW6 : ∀ i, i < k → Sz 60 (wq k r (mir c R) (xl kx x) (fun i => (xl kl xl_) (k + i)) i) := wq_sz BPm BQm (fun i _ => BXm (k + i)) (by omega)
 have BC6 : Sz 60 (wc k r (mir c R) (xl kx x) cc (fun i => (xl kl xl_) (k + i))) := wc_sz (fun i j _ _ => mir_sym c R i j) BPm BQm BCm (fun i _ => BXm (k + i)) (by omega)
 have hdb6 : dtb 60 k ≤ 3000 := dtb_le (by omega) (by omega)
 have hlb6 : lpb 60 k ≤ 3200 := by unfold lpb; omega
 go_wp2_with (refine stop_op rfl (fun K hK => wp_fda (v := .pointer (some ⟨bk1, 0, none⟩)) 32 (.tmp 12) 0 rfl rfl (fun _ => by kernel_rfl) (hK _ _ ?_)))
 unfold Stop
 try simp only [Act.put, zzC, zzD, zzE]
 go_wp2_with (refine stop_op rfl (fun K hK => wp_load1 (v := pf.v) 26 (.tmp 70) rfl bk1 0 #[pf.v, sf.v, .bool cf.b, .slice cf.a cf.n cf.c] 32 (hZ24.es.at' _ (zzG (i := 3) rfl)) rfl ag26 (by kernel_rfl) (hK _ _ ?_)))
 unfold Stop
 try simp only [Act.put, zzC, zzD, zzE]
 go_wp2_with (refine stop_op rfl (fun K hK => wp_lenq (.tmp 71) 26 27 pf rfl (by kernel_rfl) rfl (hZ24.get 9 (f := Mt (k + r) (fun _ => k + r) (mir c R) pf) rfl).n (hK _ _ ?_)))
 unfold Stop
 try simp only [Act.put, zzC, zzD, zzE]
 go_wp2_with fail
 refine (uList hZ24.nx la (k + r) (hZ24.get 12 (f := Li kl xl_ la) rfl) (by omega) rgl.out).mono ?_
 rintro zz W12 ⟨s2, d2, rfl, hi_s2, hi_d2, hB⟩
 have hZ25 := hZ24.later hB
 clear hB
 clear hZ24
 have hZ26 := hZ25.more (f := Ls (k + r) (xl kl xl_) s2) (Ls.stb _ _ _) hi_s2
 clear hZ25
 clear hi_s2
 have hZ27 := hZ26.more (f := Lr (k + r) (xl kl xl_) d2) (Lr.stb _ _ _) hi_d2
 clear hZ26
 clear hi_d2
 go_wp2_with (refine stop_op rfl (fun K hK => wp_sll 27 30 (.tmp 76) (.tmp 77) s2 k rfl rfl rfl (by kernel_rfl) sz30 (hZ27.get 1 (f := Ls (k + r) (xl kl xl_) s2) rfl) (by omega) (fun s3 hi_s3 => hK _ _ ?_)))
 unfold Stop
 try simp only [Act.put, zzC, zzD, zzE]
 have hZ28 := hZ27.more (f := Ls (k + r - k) (fun i => (xl kl xl_) (k + i)) s3) (Ls.stb _ _ _) hi_s3
 clear hZ27
 clear hi_s3
 have hZ29c := Ls.cast (show k + r - k = r by omega) (hZ28.get 0 (f := Ls (k + r - k) (fun i => (xl kl xl_) (k + i)) s3) rfl)
 have hZ30 := hZ28.more (f := Ls r (fun i => (xl kl xl_) (k + i)) s3) (Ls.stb _ _ _) hZ29c
 clear hZ28
 clear hZ29c
 go_wp2_with (refine stop_op rfl (fun K hK => wp_load 32 (.tmp 12) rfl bk1 0 4 #[pf.v, sf.v, .bool cf.b, .slice cf.a cf.n cf.c] #[pf.v, sf.v, .bool cf.b, .slice cf.a cf.n cf.c] 32 (hZ30.es.at' _ (zzG (i := 3) rfl)) rfl ag32 sz32 (zzF (by kernel_rfl)) (by kernel_rfl) (hK _ _ ?_)))
 unfold Stop
 try simp only [Act.put, zzC, zzD, zzE]
 go_wp2_with fail
 refine (uWithY hZ30.nx pf sf s3 cf (k := k) (r := r) (e := 2) (hZ30.get 13 (f := Mt (k + r) (fun _ => k + r) (mir c R) pf) rfl) (hZ30.get 12 (f := Ls (k + r) (xl kx x) sf) rfl) (hZ30.get 11 (f := cf.is) rfl) ez_cf (hZ30.get 0 (f := Ls r (fun i => (xl kl xl_) (k + i)) s3) rfl) BPm BQm BCm (fun (i : Nat) _ => BXm (k + i)) (fun i j _ _ => mir_sym c R i j) (by omega) (by omega)).mono ?_
 rintro zz W13 ⟨pw, sw, cw, rfl, hi_pw, hi_sw, ez_cw, hi_cw, hB⟩
 have hZ31 := hZ30.later hB
 clear hB
 clear hZ30
 have hZ32 := hZ31.more (f := Mt k (fun _ => k) (mir c R) pw) (Mt.stb _ _ _ _) hi_pw
 clear hZ31
 clear hi_pw
 have hZ33 := hZ32.more (f := Ls k (wq k r (mir c R) (xl kx x) (fun i => (xl kl xl_) (k + i))) sw) (Ls.stb _ _ _) hi_sw
 clear hZ32
 clear hi_sw
 have hZ34 := hZ33.more (f := cw.is) cw.stb hi_cw
 clear hZ33
 clear hi_cw
 go_wp2_with (refine stopz_alloc 32 #[.slice none 0 0, .slice none 0 0, .bool false, .slice none 0 0] (.agg #[.slice none 0 0, .slice none 0 0, .bool false, .slice none 0 0]) rfl rfl zv32 rfl hZ34 (fun bk5 X35 W14 hZ35 => ?_))
 clear hZ34
 unfold Stop
 try simp only [Act.put, zzC, zzD, zzE]
 go_wp2_with (refine stopz_store 32 (.tmp 21) (.tmp 83) 0 bk5 0 #[.slice none 0 0, .slice none 0 0, .bool false, .slice none 0 0] 32 4 [pw.v, sw.v, .bool cw.b, .slice cw.a cw.n cw.c] #[pw.v, sw.v, .bool cw.b, .slice cw.a cw.n cw.c] [(bk5, #[pw.v, sw.v, .bool cw.b, .slice cw.a cw.n cw.c], 32), (bk4, #[.bool dg.b, .slice dg.a dg.n dg.c], 30), (bk3, #[pg.v, sg.v, .bool cg.b, .slice cg.a cg.n cg.c], 32), (bk2, #[pd.v, sd.v, .bool cd.b, .slice cd.a cd.n cd.c], 45), (bk1, #[pf.v, sf.v, .bool cf.b, .slice cf.a cf.n cf.c], 32)] rfl rfl rfl rfl sz32 hZ35 rfl rfl (zzF (by kernel_rfl)) (by kernel_rfl) (by kernel_rfl) (by kernel_rfl) (fun W15 hZ36 => ?_))
 clear hZ35
 unfold Stop
 try simp only [Act.put, zzC, zzD, zzE]
 go_wp2_with (refine stop_opw (by kernel_rfl) (fun K hK => wp_fda (v := .pointer (some ⟨bk3, 0, none⟩)) 32 (.tmp 15) 0 rfl rfl (fun _ => by kernel_rfl) (hK _ _ ?_)))
 unfold Stop
 try simp only [Act.put, zzC, zzD, zzE]
 go_wp2_with (refine stop_opw (by kernel_rfl) (fun K hK => wp_load1 (v := pg.v) 26 (.tmp 88) rfl bk3 0 #[pg.v, sg.v, .bool cg.b, .slice cg.a cg.n cg.c] 32 (hZ36.es.at' _ (zzG (i := 2) rfl)) rfl ag26 (by kernel_rfl) (hK _ _ ?_)))
 unfold Stop
 try simp only [Act.put, zzC, zzD, zzE]
 go_wp2_with (refine stop_opw (by kernel_rfl) (fun K hK => wp_lenq (.tmp 89) 26 27 pg rfl (by kernel_rfl) rfl (hZ36.get 10 (f := Mt r (fun _ => r) (lp k (mir c R)) pg) rfl).n (hK _ _ ?_)))
 unfold Stop
 try simp only [Act.put, zzC, zzD, zzE]
 go_wp2_with (refine stop_opw (by kernel_rfl) (fun K hK => wp_lenq (.tmp 91) 27 30 s3 rfl (by kernel_rfl) rfl (hZ36.get 3 (f := Ls r (fun i => (xl kl xl_) (k + i)) s3) rfl).n (hK _ _ ?_)))
 unfold Stop
 try simp only [Act.put, zzC, zzD, zzE]
 go_wp2_with (refine stop_opw (by kernel_rfl) (fun K hK => wp_neqi (.tmp 90) (.tmp 92) 3 3 rfl rfl rfl rfl (r := false) (decide_eq_false (by simp)) (hK _ _ ?_)))
 unfold Stop
 try simp only [Act.put, zzC, zzD, zzE]
 go_wp2_with (refine stop_op rfl (fun K hK => wp_load 32 (.tmp 21) rfl bk5 0 4 #[pw.v, sw.v, .bool cw.b, .slice cw.a cw.n cw.c] #[pw.v, sw.v, .bool cw.b, .slice cw.a cw.n cw.c] 32 (hZ36.es.at' _ (zzG (i := 0) rfl)) rfl ag32 sz32 (zzF (by kernel_rfl)) (by kernel_rfl) (hK _ _ ?_)))
 unfold Stop
 try simp only [Act.put, zzC, zzD, zzE]
 go_wp2_with fail
 refine (uLeastY hZ36.nx pw sw cw (e := 60) (hZ36.get 2 (f := Mt k (fun _ => k) (mir c R) pw) rfl) (hZ36.get 1 (f := Ls k (wq k r (mir c R) (xl kx x) (fun i => (xl kl xl_) (k + i))) sw) rfl) (hZ36.get 0 (f := cw.is) rfl) ez_cw BK6 BW6 BC6 (by omega) (by omega) (by omega) HO.out (Int.ne_of_gt (dt_pos HO.out))).mono ?_
 rintro zz W16 ⟨sn, dn, tn, rfl, hi_sn, ez_dn, hi_dn, ez_tn, hi_tn, hB⟩
 have hZ37 := hZ36.later hB
 clear hB
 clear hZ36
 have hZ38 := hZ37.more (f := Ls k (crx k (mir c R) (wq k r (mir c R) (xl kx x) (fun i => (xl kl xl_) (k + i)))) sn) (Ls.stb _ _ _) hi_sn
 clear hZ37
 clear hi_sn
 have hZ39 := hZ38.more (f := dn.is) dn.stb hi_dn
 clear hZ38
 clear hi_dn
 have hZ40 := hZ39.more (f := tn.is) tn.stb hi_tn
 clear hZ39
 clear hi_tn
 go_wp2_with (refine stopz_alloc 30 #[.bool false, .slice none 0 0] (.agg #[.bool false, .slice none 0 0]) rfl rfl zv30 rfl hZ40 (fun bk6 X41 W17 hZ41 => ?_))
 clear hZ40
 unfold Stop
 try simp only [Act.put, zzC, zzD, zzE]
 go_wp2_with (refine stopz_alloc 30 #[.bool false, .slice none 0 0] (.agg #[.bool false, .slice none 0 0]) rfl rfl zv30 rfl hZ41 (fun bk7 X42 W18 hZ42 => ?_))
 clear hZ41
 unfold Stop
 try simp only [Act.put, zzC, zzD, zzE]
 go_wp2_with (refine stopz_store 30 (.tmp 24) (.tmp 99) 1 bk6 0 #[.bool false, .slice none 0 0] 30 2 [.bool dn.b, .slice dn.a dn.n dn.c] #[.bool dn.b, .slice dn.a dn.n dn.c] [(bk7, #[.bool false, .slice none 0 0], 30), (bk6, #[.bool dn.b, .slice dn.a dn.n dn.c], 30), (bk5, #[pw.v, sw.v, .bool cw.b, .slice cw.a cw.n cw.c], 32), (bk4, #[.bool dg.b, .slice dg.a dg.n dg.c], 30), (bk3, #[pg.v, sg.v, .bool cg.b, .slice cg.a cg.n cg.c], 32), (bk2, #[pd.v, sd.v, .bool cd.b, .slice cd.a cd.n cd.c], 45), (bk1, #[pf.v, sf.v, .bool cf.b, .slice cf.a cf.n cf.c], 32)] rfl rfl rfl rfl sz30 hZ42 rfl rfl (zzF (by kernel_rfl)) (by kernel_rfl) (by kernel_rfl) (by kernel_rfl) (fun W19 hZ43 => ?_))
 clear hZ42
 unfold Stop
 try simp only [Act.put, zzC, zzD, zzE]
 go_wp2_with (refine stopz_store 30 (.tmp 25) (.tmp 100) 0 bk7 0 #[.bool false, .slice none 0 0] 30 2 [.bool tn.b, .slice tn.a tn.n tn.c] #[.bool tn.b, .slice tn.a tn.n tn.c] [(bk7, #[.bool tn.b, .slice tn.a tn.n tn.c], 30), (bk6, #[.bool dn.b, .slice dn.a dn.n dn.c], 30), (bk5, #[pw.v, sw.v, .bool cw.b, .slice cw.a cw.n cw.c], 32), (bk4, #[.bool dg.b, .slice dg.a dg.n dg.c], 30), (bk3, #[pg.v, sg.v, .bool cg.b, .slice cg.a cg.n cg.c], 32), (bk2, #[pd.v, sd.v, .bool cd.b, .slice cd.a cd.n cd.c], 45), (bk1, #[pf.v, sf.v, .bool cf.b, .slice cf.a cf.n cf.c], 32)] rfl rfl rfl rfl sz30 hZ43 rfl rfl (zzF (by kernel_rfl)) (by kernel_rfl) (by kernel_rfl) (by kernel_rfl) (fun W20 hZ44 => ?_))
 clear hZ43
 unfold Stop
 try simp only [Act.put, zzC, zzD, zzE]
 go_wp2_with (refine stop_op rfl (fun K hK => wp_load 32 (.tmp 15) rfl bk3 0 4 #[pg.v, sg.v, .bool cg.b, .slice cg.a cg.n cg.c] #[pg.v, sg.v, .bool cg.b, .slice cg.a cg.n cg.c] 32 (hZ44.es.at' _ (zzG (i := 4) rfl)) rfl ag32 sz32 (zzF (by kernel_rfl)) (by kernel_rfl) (hK _ _ ?_)))
 unfold Stop
 try simp only [Act.put, zzC, zzD, zzE]
 go_wp2_with fail
 refine (uValue hZ44.nx pg sg cg (e := ((lpb 2 k) + 2)) s3 (hZ44.get 13 (f := Mt r (fun _ => r) (lp k (mir c R)) pg) rfl) (hZ44.get 12 (f := Ls r (lq k (mir c R) (xl kx x)) sg) rfl) (hZ44.get 11 (f := cg.is) rfl) ez_cg (hZ44.get 6 (f := Ls r (fun i => (xl kl xl_) (k + i)) s3) rfl) (fun (i j : Nat) hi hj => ((fun (i j : Nat) hi hj => lp_sz (k := k) (r := r) (n := k) (Nat.le_refl _) BPm hi hj) i j hi hj).mono (by omega)) (fun (i : Nat) hi => ((fun (i : Nat) hi => lq_sz (k := k) (r := r) BPm BQm hi) i hi).mono (by omega)) ((lc_sz (k := k) (fun (i j : Nat) hi hj => BPm i j (by omega) (by omega)) (fun (i : Nat) hi => BQm i (by omega)) BCm).mono (by omega)) (fun (i : Nat) hi => ((fun (i : Nat) _ => BXm (k + i)) i hi).mono (by omega)) (by omega) (by omega)).mono ?_
 rintro zz W21 ⟨q4, rfl, ez_q4, hi_q4, hB⟩
 have hZ45 := hZ44.later hB
 clear hB
 clear hZ44
 have hZ46 := hZ45.more (f := q4.is) q4.stb hi_q4
 clear hZ45
 clear hi_q4
 go_wp2_with (refine stopz_alloc 30 #[.bool false, .slice none 0 0] (.agg #[.bool false, .slice none 0 0]) rfl rfl zv30 rfl hZ46 (fun bk8 X47 W22 hZ47 => ?_))
 clear hZ46
 unfold Stop
 try simp only [Act.put, zzC, zzD, zzE]
 go_wp2_with (refine stopz_store 30 (.tmp 27) (.tmp 104) 0 bk8 0 #[.bool false, .slice none 0 0] 30 2 [.bool q4.b, .slice q4.a q4.n q4.c] #[.bool q4.b, .slice q4.a q4.n q4.c] [(bk8, #[.bool q4.b, .slice q4.a q4.n q4.c], 30), (bk7, #[.bool tn.b, .slice tn.a tn.n tn.c], 30), (bk6, #[.bool dn.b, .slice dn.a dn.n dn.c], 30), (bk5, #[pw.v, sw.v, .bool cw.b, .slice cw.a cw.n cw.c], 32), (bk4, #[.bool dg.b, .slice dg.a dg.n dg.c], 30), (bk3, #[pg.v, sg.v, .bool cg.b, .slice cg.a cg.n cg.c], 32), (bk2, #[pd.v, sd.v, .bool cd.b, .slice cd.a cd.n cd.c], 45), (bk1, #[pf.v, sf.v, .bool cf.b, .slice cf.a cf.n cf.c], 32)] rfl rfl rfl rfl sz30 hZ47 rfl rfl (zzF (by kernel_rfl)) (by kernel_rfl) (by kernel_rfl) (by kernel_rfl) (fun W23 hZ48 => ?_))
 clear hZ47
 unfold Stop
 try simp only [Act.put, zzC, zzD, zzE]
 go_wp2
 obtain ⟨XR15, hZ49⟩ : ∃ Xr, Zs w W23 X0 Xr [(bk8, #[.bool q4.b, .slice q4.a q4.n q4.c], 30), (bk7, #[.bool tn.b, .slice tn.a tn.n tn.c], 30), (bk6, #[.bool dn.b, .slice dn.a dn.n dn.c], 30), (bk5, #[pw.v, sw.v, .bool cw.b, .slice cw.a cw.n cw.c], 32), (bk4, #[.bool dg.b, .slice dg.a dg.n dg.c], 30), (bk3, #[pg.v, sg.v, .bool cg.b, .slice cg.a cg.n cg.c], 32), (bk2, #[pd.v, sd.v, .bool cd.b, .slice cd.a cd.n cd.c], 45), (bk1, #[pf.v, sf.v, .bool cf.b, .slice cf.a cf.n cf.c], 32)] [q4.is, tn.is, dn.is, Ls k (crx k (mir c R) (wq k r (mir c R) (xl kx x) (fun i => (xl kl xl_) (k + i)))) sn, cw.is, Ls k (wq k r (mir c R) (xl kx x) (fun i => (xl kl xl_) (k + i))) sw, Mt k (fun _ => k) (mir c R) pw, Ls r (fun i => (xl kl xl_) (k + i)) s3, Ls (k + r - k) (fun i => (xl kl xl_) (k + i)) s3, Lr (k + r) (xl kl xl_) d2, Ls (k + r) (xl kl xl_) s2, dg.is, cg.is, Ls r (lq k (mir c R) (xl kx x)) sg, Mt r (fun _ => r) (lp k (mir c R)) pg, cd.ir, Lr (k + r) (xl kx x) sd, Mr (k + r) (fun _ => k + r) (mir c R) pd, cf.is, Ls (k + r) (xl kx x) sf, Mt (k + r) (fun _ => k + r) (mir c R) pf, Mi m c R ra, Li kx x qa, Li kl xl_ la] := ⟨_, hZ48⟩
 clear hZ48
 have hVS15 : ∀ kq, kq ∈ ([veq (q4.v), veq (dn.v), vnum ((Vq r (lp k (mir c R)) (lq k (mir c R) (xl kx x)) (lc k (mir c R) (xl kx x) cc) (fun i => (xl kl xl_) (k + i))) * (M.dt k (mir c R))), veq (tn.v), veq (dg.v), vnum ((topq k (mir c R) (wq k r (mir c R) (xl kx x) (fun i => (xl kl xl_) (k + i))) (wc k r (mir c R) (xl kx x) cc (fun i => (xl kl xl_) (k + i)))) * (M.dt k (mir c R))), veq (.int .i64 ((cmpI ((Vq r (lp k (mir c R)) (lq k (mir c R) (xl kx x)) (lc k (mir c R) (xl kx x) cc) (fun i => (xl kl xl_) (k + i))) * (M.dt k (mir c R))) ((topq k (mir c R) (wq k r (mir c R) (xl kx x) (fun i => (xl kl xl_) (k + i))) (wc k r (mir c R) (xl kx x) cc (fun i => (xl kl xl_) (k + i)))) * (M.dt k (mir c R))))))] : List VF) → VSt kq := by
  intro kq hkq
  simp only [List.mem_cons, List.not_mem_nil, or_false] at hkq
  rcases hkq with rfl | rfl | rfl | rfl | rfl | rfl | rfl
  ·
   exact (veq_se _).st
  ·
   exact (veq_se _).st
  ·
   exact (vnum_se _).st
  ·
   exact (veq_se _).st
  ·
   exact (veq_se _).st
  ·
   exact (vnum_se _).st
  ·
   exact (veq_se _).st
 refine wp_region_s 7 [some 105, some 106, some 107, some 108, some 109, some 110, some 111] [veq (q4.v), veq (dn.v), vnum ((Vq r (lp k (mir c R)) (lq k (mir c R) (xl kx x)) (lc k (mir c R) (xl kx x) cc) (fun i => (xl kl xl_) (k + i))) * (M.dt k (mir c R))), veq (tn.v), veq (dg.v), vnum ((topq k (mir c R) (wq k r (mir c R) (xl kx x) (fun i => (xl kl xl_) (k + i))) (wc k r (mir c R) (xl kx x) cc (fun i => (xl kl xl_) (k + i)))) * (M.dt k (mir c R))), veq (.int .i64 ((cmpI ((Vq r (lp k (mir c R)) (lq k (mir c R) (xl kx x)) (lc k (mir c R) (xl kx x) cc) (fun i => (xl kl xl_) (k + i))) * (M.dt k (mir c R))) ((topq k (mir c R) (wq k r (mir c R) (xl kx x) (fun i => (xl kl xl_) (k + i))) (wc k r (mir c R) (xl kx x) cc (fun i => (xl kl xl_) (k + i)))) * (M.dt k (mir c R))))))] (fun _ _ X1 l1 => XR15 = X1 ∧ [(bk8, #[.bool q4.b, .slice q4.a q4.n q4.c], 30), (bk7, #[.bool tn.b, .slice tn.a tn.n tn.c], 30), (bk6, #[.bool dn.b, .slice dn.a dn.n dn.c], 30), (bk5, #[pw.v, sw.v, .bool cw.b, .slice cw.a cw.n cw.c], 32), (bk4, #[.bool dg.b, .slice dg.a dg.n dg.c], 30), (bk3, #[pg.v, sg.v, .bool cg.b, .slice cg.a cg.n cg.c], 32), (bk2, #[pd.v, sd.v, .bool cd.b, .slice cd.a cd.n cd.c], 45), (bk1, #[pf.v, sf.v, .bool cf.b, .slice cf.a cf.n cf.c], 32)] = l1) [q4.is, tn.is, dn.is, Ls k (crx k (mir c R) (wq k r (mir c R) (xl kx x) (fun i => (xl kl xl_) (k + i)))) sn, cw.is, Ls k (wq k r (mir c R) (xl kx x) (fun i => (xl kl xl_) (k + i))) sw, Mt k (fun _ => k) (mir c R) pw, Ls r (fun i => (xl kl xl_) (k + i)) s3, Ls (k + r - k) (fun i => (xl kl xl_) (k + i)) s3, Lr (k + r) (xl kl xl_) d2, Ls (k + r) (xl kl xl_) s2, dg.is, cg.is, Ls r (lq k (mir c R) (xl kx x)) sg, Mt r (fun _ => r) (lp k (mir c R)) pg, cd.ir, Lr (k + r) (xl kx x) sd, Mr (k + r) (fun _ => k + r) (mir c R) pd, cf.is, Ls (k + r) (xl kx x) sf, Mt (k + r) (fun _ => k + r) (mir c R) pf, Mi m c R ra, Li kx x qa, Li kl xl_ la] (by kernel_rfl) (by kernel_rfl) (by rfl) (by decide) (by rfl) (fun _ => ⟨XR15, _, ⟨rfl, rfl⟩, hZ49.later (Below.refl _ _).drew⟩) ?_ ?_
 ·
  intro iq hlq hiq LL uu ww aa X1 l1 hLi hLc hR hJ hd hall hev hin hold
  clear hZ49
  obtain rfl | rfl | rfl | rfl | rfl | rfl | rfl : iq = 0 ∨ iq = 1 ∨ iq = 2 ∨ iq = 3 ∨ iq = 4 ∨ iq = 5 ∨ iq = 6 := by omega
  ·
   refine opS_z hJ (fun _ => hR) ?_
   obtain ⟨eX, el⟩ := hR
   subst eX
   subst el
   exact .inr ⟨rfl, fun K' hK => wp_load 30 (.tmp 27) rfl bk8 0 2 #[.bool q4.b, .slice q4.a q4.n q4.c] #[.bool q4.b, .slice q4.a q4.n q4.c] 30 (hJ.es.at' _ (zzG (i := 0) rfl)) (eval_tmp ((hev 27 (by decide)).trans rfl)) ag30 sz30 (zzF (by kernel_rfl)) (by kernel_rfl) (hK _ _ hJ rfl vzL_same)⟩
  ·
   refine opS_z hJ (fun _ => hR) ?_
   obtain ⟨eX, el⟩ := hR
   subst eX
   subst el
   exact .inr ⟨rfl, fun K' hK => wp_load 30 (.tmp 24) rfl bk6 0 2 #[.bool dn.b, .slice dn.a dn.n dn.c] #[.bool dn.b, .slice dn.a dn.n dn.c] 30 (hJ.es.at' _ (zzG (i := 2) rfl)) (eval_tmp ((hev 24 (by decide)).trans rfl)) ag30 sz30 (zzF (by kernel_rfl)) (by kernel_rfl) (hK _ _ hJ rfl vzL_same)⟩
  ·
   refine opS_z hJ (fun _ => hR) ?_
   obtain ⟨eX, el⟩ := hR
   subst eX
   subst el
   refine .inr ⟨rfl, fun K' hK => ?_⟩
   refine wp_callz (.func 32) #[.tmp 105, .tmp 106] #[30, 30] 32 #[] #[q4.v, dn.v] _ rfl rfl (map2 (eval_tmp ((hin 0 105 rfl).trans (congrArg some (show uu 0 = q4.v from (hd 0 (by decide) (by kernel_rfl)).2)))) (eval_tmp ((hin 1 106 rfl).trans (congrArg some (show uu 1 = dn.v from (hd 1 (by decide) (by kernel_rfl)).2))))) rfl (fun _ _ => rfl) (zMul hJ.nx (hJ.get 0 (f := q4.is) rfl) (hJ.get 2 (f := dn.is) rfl) ez_q4 ez_dn (vq_sz (e := ((lpb 2 k) + 2)) (fun (i j : Nat) hi hj => ((fun (i j : Nat) hi hj => lp_sz (k := k) (r := r) (n := k) (Nat.le_refl _) BPm hi hj) i j hi hj).mono (by omega)) (fun (i : Nat) hi => ((fun (i : Nat) hi => lq_sz (k := k) (r := r) BPm BQm hi) i hi).mono (by omega)) ((lc_sz (k := k) (fun (i j : Nat) hi hj => BPm i j (by omega) (by omega)) (fun (i : Nat) hi => BQm i (by omega)) BCm).mono (by omega)) (fun (i : Nat) hi => ((fun (i : Nat) _ => BXm (k + i)) i hi).mono (by omega))) (dt_sz BKm) (by omega) (by omega)) ?_
   rintro zz ww2 ⟨q5, rfl, ez_q5, hi_q5, hB⟩
   exact ⟨_, rfl, hK _ _ (hJ.later hB) ⟨q5, rfl, ez_q5, hi_q5⟩ (vzL_later hVS15 hB)⟩
  ·
   refine opS_z hJ (fun _ => hR) ?_
   obtain ⟨eX, el⟩ := hR
   subst eX
   subst el
   exact .inr ⟨rfl, fun K' hK => wp_load 30 (.tmp 25) rfl bk7 0 2 #[.bool tn.b, .slice tn.a tn.n tn.c] #[.bool tn.b, .slice tn.a tn.n tn.c] 30 (hJ.es.at' _ (zzG (i := 1) rfl)) (eval_tmp ((hev 25 (by decide)).trans rfl)) ag30 sz30 (zzF (by kernel_rfl)) (by kernel_rfl) (hK _ _ hJ rfl vzL_same)⟩
  ·
   refine opS_z hJ (fun _ => hR) ?_
   obtain ⟨eX, el⟩ := hR
   subst eX
   subst el
   exact .inr ⟨rfl, fun K' hK => wp_load 30 (.tmp 16) rfl bk4 0 2 #[.bool dg.b, .slice dg.a dg.n dg.c] #[.bool dg.b, .slice dg.a dg.n dg.c] 30 (hJ.es.at' _ (zzG (i := 4) rfl)) (eval_tmp ((hev 16 (by decide)).trans rfl)) ag30 sz30 (zzF (by kernel_rfl)) (by kernel_rfl) (hK _ _ hJ rfl vzL_same)⟩
  ·
   refine opS_z hJ (fun _ => hR) ?_
   obtain ⟨eX, el⟩ := hR
   subst eX
   subst el
   refine .inr ⟨rfl, fun K' hK => ?_⟩
   refine wp_callz (.func 32) #[.tmp 108, .tmp 109] #[30, 30] 32 #[] #[tn.v, dg.v] _ rfl rfl (map2 (eval_tmp ((hin 3 108 rfl).trans (congrArg some (show uu 3 = tn.v from (hd 3 (by decide) (by kernel_rfl)).2)))) (eval_tmp ((hin 4 109 rfl).trans (congrArg some (show uu 4 = dg.v from (hd 4 (by decide) (by kernel_rfl)).2))))) rfl (fun _ _ => rfl) (zMul hJ.nx (hJ.get 1 (f := tn.is) rfl) (hJ.get 11 (f := dg.is) rfl) ez_tn ez_dg (lc_sz (k := k) BK6 BW6 BC6) (dt_sz (fun (i j : Nat) hi hj => BPm i j (by omega) (by omega))) (by omega) (by omega)) ?_
   rintro zz ww2 ⟨q6, rfl, ez_q6, hi_q6, hB⟩
   exact ⟨_, rfl, hK _ _ (hJ.later hB) ⟨q6, rfl, ez_q6, hi_q6⟩ (vzL_later hVS15 hB)⟩
  ·
   refine opS_z hJ (fun _ => hR) ?_
   obtain ⟨eX, el⟩ := hR
   subst eX
   subst el
   obtain ⟨q5, e2, ez_q5, hi_q5⟩ := (show (vnum ((Vq r (lp k (mir c R)) (lq k (mir c R) (xl kx x)) (lc k (mir c R) (xl kx x) cc) (fun i => (xl kl xl_) (k + i))) * (M.dt k (mir c R)))) (uu 2) XR15 ww from (hd 2 (by decide) (by kernel_rfl)).2)
   obtain ⟨q6, e5, ez_q6, hi_q6⟩ := (show (vnum ((topq k (mir c R) (wq k r (mir c R) (xl kx x) (fun i => (xl kl xl_) (k + i))) (wc k r (mir c R) (xl kx x) cc (fun i => (xl kl xl_) (k + i)))) * (M.dt k (mir c R)))) (uu 5) XR15 ww from (hd 5 (by decide) (by kernel_rfl)).2)
   replace hJ := hJ.more (f := q5.is) q5.stb hi_q5
   replace hJ := hJ.more (f := q6.is) q6.stb hi_q6
   refine .inr ⟨rfl, fun K' hK => ?_⟩
   refine wp_callz (.func 33) #[.tmp 107, .tmp 110] #[30, 30] 33 #[] #[q5.v, q6.v] _ rfl rfl (map2 (eval_tmp ((hin 2 107 rfl).trans (congrArg some e2))) (eval_tmp ((hin 5 110 rfl).trans (congrArg some e5)))) rfl (fun _ _ => rfl) (zCmp (hJ.get 1 (f := q5.is) rfl) (hJ.get 0 (f := q6.is) rfl) ez_q5 ez_q6) ?_
   rintro zz ww2 ⟨rfl, hB⟩
   exact ⟨_, rfl, hK _ _ ((hJ.only [q4.is, tn.is, dn.is, Ls k (crx k (mir c R) (wq k r (mir c R) (xl kx x) (fun i => (xl kl xl_) (k + i)))) sn, cw.is, Ls k (wq k r (mir c R) (xl kx x) (fun i => (xl kl xl_) (k + i))) sw, Mt k (fun _ => k) (mir c R) pw, Ls r (fun i => (xl kl xl_) (k + i)) s3, Ls (k + r - k) (fun i => (xl kl xl_) (k + i)) s3, Lr (k + r) (xl kl xl_) d2, Ls (k + r) (xl kl xl_) s2, dg.is, cg.is, Ls r (lq k (mir c R) (xl kx x)) sg, Mt r (fun _ => r) (lp k (mir c R)) pg, cd.ir, Lr (k + r) (xl kx x) sd, Mr (k + r) (fun _ => k + r) (mir c R) pd, cf.is, Ls (k + r) (xl kx x) sf, Mt (k + r) (fun _ => k + r) (mir c R) pf, Mi m c R ra, Li kx x qa, Li kl xl_ la] (by simp)).later hB) rfl (vzL_later hVS15 hB)⟩
 clear hZ49
 intro LL uu W24 X1 l1 hLL hR hZ50 hd
 obtain ⟨eX, el⟩ := hR
 subst eX
 subst el
 have e_0 : uu 0 = q4.v := hd 0 (by decide)
 have e_1 : uu 1 = dn.v := hd 1 (by decide)
 obtain ⟨q5, e_2, ez_q5, hi_q5⟩ := (show (vnum ((Vq r (lp k (mir c R)) (lq k (mir c R) (xl kx x)) (lc k (mir c R) (xl kx x) cc) (fun i => (xl kl xl_) (k + i))) * (M.dt k (mir c R)))) (uu 2) XR15 W24 from hd 2 (by decide))
 have e_3 : uu 3 = tn.v := hd 3 (by decide)
 have e_4 : uu 4 = dg.v := hd 4 (by decide)
 obtain ⟨q6, e_5, ez_q6, hi_q6⟩ := (show (vnum ((topq k (mir c R) (wq k r (mir c R) (xl kx x) (fun i => (xl kl xl_) (k + i))) (wc k r (mir c R) (xl kx x) cc (fun i => (xl kl xl_) (k + i)))) * (M.dt k (mir c R)))) (uu 5) XR15 W24 from hd 5 (by decide))
 have e_6 : uu 6 = .int .i64 ((cmpI ((Vq r (lp k (mir c R)) (lq k (mir c R) (xl kx x)) (lc k (mir c R) (xl kx x) cc) (fun i => (xl kl xl_) (k + i))) * (M.dt k (mir c R))) ((topq k (mir c R) (wq k r (mir c R) (xl kx x) (fun i => (xl kl xl_) (k + i))) (wc k r (mir c R) (xl kx x) cc (fun i => (xl kl xl_) (k + i)))) * (M.dt k (mir c R))))) := hd 6 (by decide)
 clear hd hVS15
 simp only [layS, Act.put, zzC, zzD, zzE, Nat.zero_add, Nat.reduceAdd, List.drop_succ_cons, List.drop_zero, List.drop_nil, e_0, e_1, e_2, e_3, e_4, e_5, e_6]
 clear e_0 e_1 e_2 e_3 e_4 e_5 e_6
 have hZ51 := hZ50.more (f := q5.is) q5.stb hi_q5
 clear hZ50
 clear hi_q5
 have hZ52 := hZ51.more (f := q6.is) q6.stb hi_q6
 clear hZ51
 clear hi_q6
 go_wp2
 obtain ⟨XR16, hZ53⟩ : ∃ Xr, Zs w W24 X0 Xr [(bk8, #[.bool q4.b, .slice q4.a q4.n q4.c], 30), (bk7, #[.bool tn.b, .slice tn.a tn.n tn.c], 30), (bk6, #[.bool dn.b, .slice dn.a dn.n dn.c], 30), (bk5, #[pw.v, sw.v, .bool cw.b, .slice cw.a cw.n cw.c], 32), (bk4, #[.bool dg.b, .slice dg.a dg.n dg.c], 30), (bk3, #[pg.v, sg.v, .bool cg.b, .slice cg.a cg.n cg.c], 32), (bk2, #[pd.v, sd.v, .bool cd.b, .slice cd.a cd.n cd.c], 45), (bk1, #[pf.v, sf.v, .bool cf.b, .slice cf.a cf.n cf.c], 32)] [q6.is, q5.is, q4.is, tn.is, dn.is, Ls k (crx k (mir c R) (wq k r (mir c R) (xl kx x) (fun i => (xl kl xl_) (k + i)))) sn, cw.is, Ls k (wq k r (mir c R) (xl kx x) (fun i => (xl kl xl_) (k + i))) sw, Mt k (fun _ => k) (mir c R) pw, Ls r (fun i => (xl kl xl_) (k + i)) s3, Ls (k + r - k) (fun i => (xl kl xl_) (k + i)) s3, Lr (k + r) (xl kl xl_) d2, Ls (k + r) (xl kl xl_) s2, dg.is, cg.is, Ls r (lq k (mir c R) (xl kx x)) sg, Mt r (fun _ => r) (lp k (mir c R)) pg, cd.ir, Lr (k + r) (xl kx x) sd, Mr (k + r) (fun _ => k + r) (mir c R) pd, cf.is, Ls (k + r) (xl kx x) sf, Mt (k + r) (fun _ => k + r) (mir c R) pf, Mi m c R ra, Li kx x qa, Li kl xl_ la] := ⟨_, hZ52⟩
 clear hZ52
 have hVS16 : ∀ kq, kq ∈ ([veq (.agg #[pf.v, sf.v, .bool cf.b, .slice cf.a cf.n cf.c]), veq (s2.v), vnum (Vq (k + r) (mir c R) (xl kx x) cc (xl kl xl_)), veq (dg.v), vnum ((Vq (k + r) (mir c R) (xl kx x) cc (xl kl xl_)) * (M.dt k (mir c R))), veq (q4.v), veq (.int .i64 ((cmpI ((Vq (k + r) (mir c R) (xl kx x) cc (xl kl xl_)) * (M.dt k (mir c R))) (Vq r (lp k (mir c R)) (lq k (mir c R) (xl kx x)) (lc k (mir c R) (xl kx x) cc) (fun i => (xl kl xl_) (k + i))))))] : List VF) → VSt kq := by
  intro kq hkq
  simp only [List.mem_cons, List.not_mem_nil, or_false] at hkq
  rcases hkq with rfl | rfl | rfl | rfl | rfl | rfl | rfl
  ·
   exact (veq_se _).st
  ·
   exact (veq_se _).st
  ·
   exact (vnum_se _).st
  ·
   exact (veq_se _).st
  ·
   exact (vnum_se _).st
  ·
   exact (veq_se _).st
  ·
   exact (veq_se _).st
 refine wp_region_s 7 [some 112, some 113, some 114, some 115, some 116, some 117, some 118] [veq (.agg #[pf.v, sf.v, .bool cf.b, .slice cf.a cf.n cf.c]), veq (s2.v), vnum (Vq (k + r) (mir c R) (xl kx x) cc (xl kl xl_)), veq (dg.v), vnum ((Vq (k + r) (mir c R) (xl kx x) cc (xl kl xl_)) * (M.dt k (mir c R))), veq (q4.v), veq (.int .i64 ((cmpI ((Vq (k + r) (mir c R) (xl kx x) cc (xl kl xl_)) * (M.dt k (mir c R))) (Vq r (lp k (mir c R)) (lq k (mir c R) (xl kx x)) (lc k (mir c R) (xl kx x) cc) (fun i => (xl kl xl_) (k + i))))))] (fun _ _ X1 l1 => XR16 = X1 ∧ [(bk8, #[.bool q4.b, .slice q4.a q4.n q4.c], 30), (bk7, #[.bool tn.b, .slice tn.a tn.n tn.c], 30), (bk6, #[.bool dn.b, .slice dn.a dn.n dn.c], 30), (bk5, #[pw.v, sw.v, .bool cw.b, .slice cw.a cw.n cw.c], 32), (bk4, #[.bool dg.b, .slice dg.a dg.n dg.c], 30), (bk3, #[pg.v, sg.v, .bool cg.b, .slice cg.a cg.n cg.c], 32), (bk2, #[pd.v, sd.v, .bool cd.b, .slice cd.a cd.n cd.c], 45), (bk1, #[pf.v, sf.v, .bool cf.b, .slice cf.a cf.n cf.c], 32)] = l1) [q6.is, q5.is, q4.is, tn.is, dn.is, Ls k (crx k (mir c R) (wq k r (mir c R) (xl kx x) (fun i => (xl kl xl_) (k + i)))) sn, cw.is, Ls k (wq k r (mir c R) (xl kx x) (fun i => (xl kl xl_) (k + i))) sw, Mt k (fun _ => k) (mir c R) pw, Ls r (fun i => (xl kl xl_) (k + i)) s3, Ls (k + r - k) (fun i => (xl kl xl_) (k + i)) s3, Lr (k + r) (xl kl xl_) d2, Ls (k + r) (xl kl xl_) s2, dg.is, cg.is, Ls r (lq k (mir c R) (xl kx x)) sg, Mt r (fun _ => r) (lp k (mir c R)) pg, cd.ir, Lr (k + r) (xl kx x) sd, Mr (k + r) (fun _ => k + r) (mir c R) pd, cf.is, Ls (k + r) (xl kx x) sf, Mt (k + r) (fun _ => k + r) (mir c R) pf, Mi m c R ra, Li kx x qa, Li kl xl_ la] (by kernel_rfl) (by kernel_rfl) (by rfl) (by decide) (by rfl) (fun _ => ⟨XR16, _, ⟨rfl, rfl⟩, hZ53.later (Below.refl _ _).drew⟩) ?_ ?_
 ·
  intro iq hlq hiq LL uu ww aa X1 l1 hLi hLc hR hJ hd hall hev hin hold
  clear hZ53
  obtain rfl | rfl | rfl | rfl | rfl | rfl | rfl : iq = 0 ∨ iq = 1 ∨ iq = 2 ∨ iq = 3 ∨ iq = 4 ∨ iq = 5 ∨ iq = 6 := by omega
  ·
   refine opS_z hJ (fun _ => hR) ?_
   obtain ⟨eX, el⟩ := hR
   subst eX
   subst el
   exact .inr ⟨rfl, fun K' hK => wp_load 32 (.tmp 12) rfl bk1 0 4 #[pf.v, sf.v, .bool cf.b, .slice cf.a cf.n cf.c] #[pf.v, sf.v, .bool cf.b, .slice cf.a cf.n cf.c] 32 (hJ.es.at' _ (zzG (i := 7) rfl)) (eval_tmp ((hev 12 (by decide)).trans rfl)) ag32 sz32 (zzF (by kernel_rfl)) (by kernel_rfl) (hK _ _ hJ rfl vzL_same)⟩
  ·
   refine opS_z hJ (fun _ => hR) ?_
   obtain ⟨eX, el⟩ := hR
   subst eX
   subst el
   exact .inr ⟨rfl, fun K' hK => wp_move (.tmp 18) rfl (eval_tmp ((hev 18 (by decide)).trans rfl)) (hK _ _ hJ rfl vzL_same)⟩
  ·
   refine opS_z hJ (fun _ => hR) ?_
   obtain ⟨eX, el⟩ := hR
   subst eX
   subst el
   refine .inr ⟨rfl, fun K' hK => ?_⟩
   refine wp_callz (.func 16) #[.tmp 112, .tmp 113] #[32, 27] 16 #[] #[.agg #[pf.v, sf.v, .bool cf.b, .slice cf.a cf.n cf.c], s2.v] _ rfl rfl (map2 (eval_tmp ((hin 0 112 rfl).trans (congrArg some (show uu 0 = .agg #[pf.v, sf.v, .bool cf.b, .slice cf.a cf.n cf.c] from (hd 0 (by decide) (by kernel_rfl)).2)))) (eval_tmp ((hin 1 113 rfl).trans (congrArg some (show uu 1 = s2.v from (hd 1 (by decide) (by kernel_rfl)).2))))) rfl (fun _ _ => rfl) (uValue hJ.nx pf sf cf (e := (2 + 2)) s2 (hJ.get 22 (f := Mt (k + r) (fun _ => k + r) (mir c R) pf) rfl) (hJ.get 21 (f := Ls (k + r) (xl kx x) sf) rfl) (hJ.get 20 (f := cf.is) rfl) ez_cf (hJ.get 12 (f := Ls (k + r) (xl kl xl_) s2) rfl) (fun (i j : Nat) hi hj => (BPm i j hi hj).mono (by omega)) (fun (i : Nat) hi => (BQm i hi).mono (by omega)) (BCm.mono (by omega)) (fun (i : Nat) hi => ((fun (i : Nat) _ => BXm i) i hi).mono (by omega)) (by omega) (by omega)) ?_
   rintro zz ww2 ⟨q7, rfl, ez_q7, hi_q7, hB⟩
   exact ⟨_, rfl, hK _ _ (hJ.later hB) ⟨q7, rfl, ez_q7, hi_q7⟩ (vzL_later hVS16 hB)⟩
  ·
   refine opS_z hJ (fun _ => hR) ?_
   obtain ⟨eX, el⟩ := hR
   subst eX
   subst el
   exact .inr ⟨rfl, fun K' hK => wp_load 30 (.tmp 16) rfl bk4 0 2 #[.bool dg.b, .slice dg.a dg.n dg.c] #[.bool dg.b, .slice dg.a dg.n dg.c] 30 (hJ.es.at' _ (zzG (i := 4) rfl)) (eval_tmp ((hev 16 (by decide)).trans rfl)) ag30 sz30 (zzF (by kernel_rfl)) (by kernel_rfl) (hK _ _ hJ rfl vzL_same)⟩
  ·
   refine opS_z hJ (fun _ => hR) ?_
   obtain ⟨eX, el⟩ := hR
   subst eX
   subst el
   obtain ⟨q7, e2, ez_q7, hi_q7⟩ := (show (vnum (Vq (k + r) (mir c R) (xl kx x) cc (xl kl xl_))) (uu 2) XR16 ww from (hd 2 (by decide) (by kernel_rfl)).2)
   replace hJ := hJ.more (f := q7.is) q7.stb hi_q7
   refine .inr ⟨rfl, fun K' hK => ?_⟩
   refine wp_callz (.func 32) #[.tmp 114, .tmp 115] #[30, 30] 32 #[] #[q7.v, dg.v] _ rfl rfl (map2 (eval_tmp ((hin 2 114 rfl).trans (congrArg some e2))) (eval_tmp ((hin 3 115 rfl).trans (congrArg some (show uu 3 = dg.v from (hd 3 (by decide) (by kernel_rfl)).2))))) rfl (fun _ _ => rfl) (zMul hJ.nx (hJ.get 0 (f := q7.is) rfl) (hJ.get 14 (f := dg.is) rfl) ez_q7 ez_dg (vq_sz (e := (2 + 2)) (fun (i j : Nat) hi hj => (BPm i j hi hj).mono (by omega)) (fun (i : Nat) hi => (BQm i hi).mono (by omega)) (BCm.mono (by omega)) (fun (i : Nat) hi => ((fun (i : Nat) _ => BXm i) i hi).mono (by omega))) (dt_sz (fun (i j : Nat) hi hj => BPm i j (by omega) (by omega))) (by omega) (by omega)) ?_
   rintro zz ww2 ⟨q8, rfl, ez_q8, hi_q8, hB⟩
   exact ⟨_, rfl, hK _ _ ((hJ.only [q6.is, q5.is, q4.is, tn.is, dn.is, Ls k (crx k (mir c R) (wq k r (mir c R) (xl kx x) (fun i => (xl kl xl_) (k + i)))) sn, cw.is, Ls k (wq k r (mir c R) (xl kx x) (fun i => (xl kl xl_) (k + i))) sw, Mt k (fun _ => k) (mir c R) pw, Ls r (fun i => (xl kl xl_) (k + i)) s3, Ls (k + r - k) (fun i => (xl kl xl_) (k + i)) s3, Lr (k + r) (xl kl xl_) d2, Ls (k + r) (xl kl xl_) s2, dg.is, cg.is, Ls r (lq k (mir c R) (xl kx x)) sg, Mt r (fun _ => r) (lp k (mir c R)) pg, cd.ir, Lr (k + r) (xl kx x) sd, Mr (k + r) (fun _ => k + r) (mir c R) pd, cf.is, Ls (k + r) (xl kx x) sf, Mt (k + r) (fun _ => k + r) (mir c R) pf, Mi m c R ra, Li kx x qa, Li kl xl_ la] (by simp)).later hB) ⟨q8, rfl, ez_q8, hi_q8⟩ (vzL_later hVS16 hB)⟩
  ·
   refine opS_z hJ (fun _ => hR) ?_
   obtain ⟨eX, el⟩ := hR
   subst eX
   subst el
   exact .inr ⟨rfl, fun K' hK => wp_load 30 (.tmp 27) rfl bk8 0 2 #[.bool q4.b, .slice q4.a q4.n q4.c] #[.bool q4.b, .slice q4.a q4.n q4.c] 30 (hJ.es.at' _ (zzG (i := 0) rfl)) (eval_tmp ((hev 27 (by decide)).trans rfl)) ag30 sz30 (zzF (by kernel_rfl)) (by kernel_rfl) (hK _ _ hJ rfl vzL_same)⟩
  ·
   refine opS_z hJ (fun _ => hR) ?_
   obtain ⟨eX, el⟩ := hR
   subst eX
   subst el
   obtain ⟨q8, e4, ez_q8, hi_q8⟩ := (show (vnum ((Vq (k + r) (mir c R) (xl kx x) cc (xl kl xl_)) * (M.dt k (mir c R)))) (uu 4) XR16 ww from (hd 4 (by decide) (by kernel_rfl)).2)
   replace hJ := hJ.more (f := q8.is) q8.stb hi_q8
   refine .inr ⟨rfl, fun K' hK => ?_⟩
   refine wp_callz (.func 33) #[.tmp 116, .tmp 117] #[30, 30] 33 #[] #[q8.v, q4.v] _ rfl rfl (map2 (eval_tmp ((hin 4 116 rfl).trans (congrArg some e4))) (eval_tmp ((hin 5 117 rfl).trans (congrArg some (show uu 5 = q4.v from (hd 5 (by decide) (by kernel_rfl)).2))))) rfl (fun _ _ => rfl) (zCmp (hJ.get 0 (f := q8.is) rfl) (hJ.get 3 (f := q4.is) rfl) ez_q8 ez_q4) ?_
   rintro zz ww2 ⟨rfl, hB⟩
   exact ⟨_, rfl, hK _ _ ((hJ.only [q6.is, q5.is, q4.is, tn.is, dn.is, Ls k (crx k (mir c R) (wq k r (mir c R) (xl kx x) (fun i => (xl kl xl_) (k + i)))) sn, cw.is, Ls k (wq k r (mir c R) (xl kx x) (fun i => (xl kl xl_) (k + i))) sw, Mt k (fun _ => k) (mir c R) pw, Ls r (fun i => (xl kl xl_) (k + i)) s3, Ls (k + r - k) (fun i => (xl kl xl_) (k + i)) s3, Lr (k + r) (xl kl xl_) d2, Ls (k + r) (xl kl xl_) s2, dg.is, cg.is, Ls r (lq k (mir c R) (xl kx x)) sg, Mt r (fun _ => r) (lp k (mir c R)) pg, cd.ir, Lr (k + r) (xl kx x) sd, Mr (k + r) (fun _ => k + r) (mir c R) pd, cf.is, Ls (k + r) (xl kx x) sf, Mt (k + r) (fun _ => k + r) (mir c R) pf, Mi m c R ra, Li kx x qa, Li kl xl_ la] (by simp)).later hB) rfl (vzL_later hVS16 hB)⟩
 clear hZ53
 intro LL uu W25 X1 l1 hLL hR hZ54 hd
 obtain ⟨eX, el⟩ := hR
 subst eX
 subst el
 have e_0 : uu 0 = .agg #[pf.v, sf.v, .bool cf.b, .slice cf.a cf.n cf.c] := hd 0 (by decide)
 have e_1 : uu 1 = s2.v := hd 1 (by decide)
 obtain ⟨q7, e_2, ez_q7, hi_q7⟩ := (show (vnum (Vq (k + r) (mir c R) (xl kx x) cc (xl kl xl_))) (uu 2) XR16 W25 from hd 2 (by decide))
 have e_3 : uu 3 = dg.v := hd 3 (by decide)
 obtain ⟨q8, e_4, ez_q8, hi_q8⟩ := (show (vnum ((Vq (k + r) (mir c R) (xl kx x) cc (xl kl xl_)) * (M.dt k (mir c R)))) (uu 4) XR16 W25 from hd 4 (by decide))
 have e_5 : uu 5 = q4.v := hd 5 (by decide)
 have e_6 : uu 6 = .int .i64 ((cmpI ((Vq (k + r) (mir c R) (xl kx x) cc (xl kl xl_)) * (M.dt k (mir c R))) (Vq r (lp k (mir c R)) (lq k (mir c R) (xl kx x)) (lc k (mir c R) (xl kx x) cc) (fun i => (xl kl xl_) (k + i))))) := hd 6 (by decide)
 clear hd hVS16
 simp only [layS, Act.put, zzC, zzD, zzE, Nat.zero_add, Nat.reduceAdd, List.drop_succ_cons, List.drop_zero, List.drop_nil, e_0, e_1, e_2, e_3, e_4, e_5, e_6]
 clear e_0 e_1 e_2 e_3 e_4 e_5 e_6
 have hZ55 := hZ54.more (f := q7.is) q7.stb hi_q7
 clear hZ54
 clear hi_q7
 have hZ56 := hZ55.more (f := q8.is) q8.stb hi_q8
 clear hZ55
 clear hi_q8
 go_wp2_with (refine stop_op rfl (fun K hK => wp_load 30 (.tmp 16) rfl bk4 0 2 #[.bool dg.b, .slice dg.a dg.n dg.c] #[.bool dg.b, .slice dg.a dg.n dg.c] 30 (hZ56.es.at' _ (zzG (i := 4) rfl)) rfl ag30 sz30 (zzF (by kernel_rfl)) (by kernel_rfl) (hK _ _ ?_)))
 unfold Stop
 try simp only [Act.put, zzC, zzD, zzE]
 go_wp2_with fail
 refine (zSign (hZ56.get 15 (f := dg.is) rfl) ez_dg).mono ?_
 rintro zz W26 ⟨rfl, hB⟩
 have hZ57 := hZ56.later hB
 clear hB
 clear hZ56
 have hZ58 := hZ57.only [] (by simp)
 clear hZ57
 go_wp2_with (refine stop_opw (by kernel_rfl) (fun K hK => wp_eqli (.tmp 127) (.const (.int .i64 0)) 3 3 rfl rfl rfl rfl (r := true) (ceq_t (left_same (fun i j _ _ => mir_sym c R i j) HO.out (fun i => (xl kl xl_) (k + i)))) (hK _ _ ?_)))
 unfold Stop
 try simp only [Act.put, zzC, zzD, zzE]
 go_wp2_with (refine stop_opw (by kernel_rfl) (fun K hK => wp_geqi (.tmp 131) (.const (.int .i64 0)) rfl rfl rfl (r := true) (cge_t (left_above (e := 2) (by omega) BKm (fun i j _ _ => mir_sym c R i j) HO.out (xl kl xl_))) (hK _ _ ?_)))
 unfold Stop
 try simp only [Act.put, zzC, zzD, zzE]
 go_wp2_with (refine stop_opw (by kernel_rfl) (fun K hK => wp_gtri (.tmp 135) (.const (.int .i64 0)) rfl rfl rfl (r := true) (gtr_t (dt_pos HO.out)) (hK _ _ ?_)))
 unfold Stop
 try simp only [Act.put, zzC, zzD, zzE]
 go_wp2
 go_ret
 exact ⟨rfl, hZ58.below⟩
end Go.Proofs.YtjclllindbfmhaaGreatDoor

/- The law QuadLeft of layer 8, walked. No statement of the seat is proved here. -/
namespace Go.Proofs.YtjclllindbfmhaaGreatDoor
open Go Go.RowKit
open Classical in
theorem ulfAny {X0 : Nat → Prop} {w : World} (hX : NX X0 w) (ra qa la : Sl) (m kx kl : Nat) (c : Nat → Nat) (R : Nat → Nat → Int) (x : Nat → Int) (cc : Int) (xl_ : Nat → Int) (hra : Mi m c R ra X0 w) (hqa : Li kx x qa X0 w) (hla : Li kl xl_ la X0 w) (rgR0 : ∀ i j, i < m → j < c i → -9223372036854775808 ≤ R i j ∧ R i j ≤ 9223372036854775807) (rgx0 : ∀ i, i < kx → -9223372036854775808 ≤ x i ∧ x i ≤ 9223372036854775807) (hcc : -9223372036854775808 ≤ cc ∧ cc ≤ 9223372036854775807) (rgl0 : ∀ i, i < kl → -9223372036854775808 ≤ xl_ i ∧ xl_ i ≤ 9223372036854775807) (kk : Int) : Calls Tryz.prog 7 #[ra.v, qa.v, .int .i64 cc, la.v, .int .i64 kk] w (PVal (.bool true) w) := by
 obtain ⟨n, hnm, hmin, hnu⟩ : ∃ n : Nat, n ≤ m ∧ ((((m : Nat) : Int) ≤ ((7 : Nat) : Int) ∧ ((n : Nat) : Int) = ((m : Nat) : Int)) ∨ (((7 : Nat) : Int) < ((m : Nat) : Int) ∧ ((n : Nat) : Int) = ((7 : Nat) : Int))) ∧ n ≤ 7 := by
  by_cases h : m ≤ 7
  ·
   exact ⟨m, Nat.le_refl _, .inl ⟨by omega, rfl⟩, h⟩
  ·
   exact ⟨7, by omega, .inr ⟨by omega, rfl⟩, Nat.le_refl _⟩
 by_cases h1 : kk < 0
 ·
  exact ulf1 hX ra qa la m kx kl c R x cc xl_ hra hqa hla rgR0 rgx0 hcc rgl0 n kk hnm hmin hnu h1
 ·
  by_cases h2 : (n : Int) < kk
  ·
   exact ulf2 hX ra qa la m kx kl c R x cc xl_ hra hqa hla rgR0 rgx0 hcc rgl0 n kk hnm hmin hnu (by omega) h2
  ·
   obtain ⟨k, rfl⟩ : ∃ k : Nat, kk = ((k : Nat) : Int) := ⟨kk.toNat, by omega⟩
   obtain ⟨r, rfl⟩ : ∃ r, n = k + r := ⟨n - k, by omega⟩
   by_cases ho : (Sym k (mir c R) ∧ ∀ i, i < k → 0 < M.dt (i + 1) (mir c R))
   ·
    exact ulf4 hX ra qa la m kx kl c R x cc xl_ hra hqa hla rgR0 rgx0 hcc rgl0 k r hnm hmin hnu ho
   ·
    exact ulf3 hX ra qa la m kx kl c R x cc xl_ hra hqa hla rgR0 rgx0 hcc rgl0 k r hnm hmin hnu ho
end Go.Proofs.YtjclllindbfmhaaGreatDoor
