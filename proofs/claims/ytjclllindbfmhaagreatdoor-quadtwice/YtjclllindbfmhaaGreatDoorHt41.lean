/- Parts of the proof. -/
import Derived.Test.YtjclllindbfmhaaGreatDoorHt0
import Derived.Test.YtjclllindbfmhaaGreatDoorHt37
import Derived.Test.YtjclllindbfmhaaGreatDoorHt39
import Derived.Test.YtjclllindbfmhaaGreatDoorHt40
/- The law QuadTwice of layer 8, walked. No statement of the seat is proved here. -/
namespace Go.Proofs.YtjclllindbfmhaaGreatDoor
open Go Go.RowKit
open Classical in
set_option maxRecDepth 100000 in
set_option maxHeartbeats 25600000 in
theorem ult7 {X0 : Nat → Prop} {w : World} (hX : NX X0 w) (ra qa la : Sl) (m kx kl : Nat) (c : Nat → Nat) (R : Nat → Nat → Int) (x : Nat → Int) (cc : Int) (xl_ : Nat → Int) (hra : Mi m c R ra X0 w) (hqa : Li kx x qa X0 w) (hla : Li kl xl_ la X0 w) (rgR0 : ∀ i j, i < m → j < c i → -9223372036854775808 ≤ R i j ∧ R i j ≤ 9223372036854775807) (rgx0 : ∀ i, i < kx → -9223372036854775808 ≤ x i ∧ x i ≤ 9223372036854775807) (hcc : -9223372036854775808 ≤ cc ∧ cc ≤ 9223372036854775807) (rgl0 : ∀ i, i < kl → -9223372036854775808 ≤ xl_ i ∧ xl_ i ≤ 9223372036854775807) (a b r : Nat) (hnm : a + (b + r) ≤ m) (hmin : (((m : Nat) : Int) ≤ ((6 : Nat) : Int) ∧ ((a + (b + r) : Nat) : Int) = ((m : Nat) : Int)) ∨ (((6 : Nat) : Int) < ((m : Nat) : Int) ∧ ((a + (b + r) : Nat) : Int) = ((6 : Nat) : Int))) (hnu : a + (b + r) ≤ 6) (ha : (Sym a (mir c R) ∧ ∀ i, i < a → 0 < M.dt (i + 1) (mir c R))) (hab : (Sym (a + b) (mir c R) ∧ ∀ i, i < a + b → 0 < M.dt (i + 1) (mir c R))) : Calls Tryz.prog 8 #[ra.v, qa.v, .int .i64 cc, la.v, .int .i64 ((a : Nat) : Int), .int .i64 ((b : Nat) : Int)] w (PVal (.bool true) w) := by
 have rgR := Lib.hid rgR0
 clear rgR0
 have rgx := Lib.hid rgx0
 clear rgx0
 have rgl := Lib.hid rgl0
 clear rgl0
 have BPm : ∀ i j, i < a + (b + r) → j < a + (b + r) → Sz 2 (mir c R i j) := (fun (i j : Nat) hi hj => sz_int (mir_in rgR.out (Nat.lt_of_lt_of_le hi hnm) (Nat.lt_of_lt_of_le hj hnm)).1 (mir_in rgR.out (Nat.lt_of_lt_of_le hi hnm) (Nat.lt_of_lt_of_le hj hnm)).2)
 have BQm : ∀ i, i < a + (b + r) → Sz 2 (xl kx x i) := fun i _ => xl_in rgx.out i
 have BCm : Sz 2 cc := sz_int hcc.1 hcc.2
 have BXm : ∀ i, Sz 2 (xl kl xl_ i) := fun i => xl_in rgl.out i
 have hZ0 := zs_start hX
 have hZ1 := hZ0.more (f := Li kl xl_ la) (Li.stb _ _ _) hla
 clear hZ0
 have hZ2 := hZ1.more (f := Li kx x qa) (Li.stb _ _ _) hqa
 clear hZ1
 have hZ3 := hZ2.more (f := Mi m c R ra) (Mi.stb _ _ _ _) hra
 clear hZ2
 go_enter Tryz.func8, Tryz.ntmps8
 have HA := Lib.hid ha
 clear ha
 have hda : dtb 2 a ≤ 3000 := dtb_le (by omega) (by omega)
 have hla : lpb 2 a ≤ 150 := lpb_le (by omega)
 have hla1 : 1 ≤ lpb 2 a := by unfold lpb; omega
 have HAB := Lib.hid hab
 clear hab
 have hdab : dtb 2 (a + b) ≤ 3000 := dtb_le (by omega) (by omega)
 have hlab : lpb 2 (a + b) ≤ 150 := lpb_le (by omega)
 have hdb : dtb (lpb 2 a) b ≤ 3000 := dtb_le (by omega) (by omega)
 have hlb : lpb (lpb 2 a) b ≤ 3300 := by unfold lpb at *; omega
 have HDa : Hid (M.dt a (mir c R) ≠ 0) := Lib.hid (Int.ne_of_gt (dt_pos HA.out))
 have HSg : Hid (Sym (b + r) (lp a (mir c R))) := Lib.hid (lp_sym (fun i j _ _ => mir_sym c R i j) HDa.out)
 have BPg : ∀ i j, i < b + r → j < b + r → Sz (lpb 2 a) (lp a (mir c R) i j) := fun i j hi hj => lp_sz (k := a) (r := b + r) (n := a) (Nat.le_refl _) BPm hi hj
 have BQg : ∀ i, i < b + r → Sz (lpb 2 a) (lq a (mir c R) (xl kx x) i) := fun i hi => lq_sz (k := a) (r := b + r) BPm BQm hi
 have BCg : Sz (lpb 2 a) (lc a (mir c R) (xl kx x) cc) := lc_sz (k := a) (fun i j hi hj => BPm i j (by omega) (by omega)) (fun i hi => BQm i (by omega)) BCm
 have BP2 : ∀ i j, i < a + b + r → j < a + b + r → Sz 2 (mir c R i j) := fun i j hi hj => BPm i j (by omega) (by omega)
 have BQ2 : ∀ i, i < a + b + r → Sz 2 (xl kx x i) := fun i hi => BQm i (by omega)
 have HIF : Hid ((Sym b (lp a (mir c R)) ∧ ∀ i, i < b → 0 < M.dt (i + 1) (lp a (mir c R))) ↔ (Sym (a + b) (mir c R) ∧ ∀ i, i < a + b → 0 < M.dt (i + 1) (mir c R))) := Lib.hid (twice_def (e := 2) (f := lpb 2 a) (by omega) hla1 (fun i j hi hj => BPm i j (by omega) (by omega)) (fun i j hi hj => BPg i j (by omega) (by omega)) (fun i j _ _ => mir_sym c R i j) HA.out)
 have HB := Lib.hid (HIF.out.2 HAB.out)
 have HDb : Hid (M.dt b (lp a (mir c R)) ≠ 0) := Lib.hid (Int.ne_of_gt (dt_pos HB.out))
 have HDab : Hid (M.dt (a + b) (mir c R) ≠ 0) := Lib.hid (Int.ne_of_gt (dt_pos HAB.out))
 have BPh : ∀ i j, i < r → j < r → Sz (lpb (lpb 2 a) b) (lp b (lp a (mir c R)) i j) := fun i j hi hj => lp_sz (k := b) (r := r) (n := b) (Nat.le_refl _) BPg hi hj
 have BQh : ∀ i, i < r → Sz (lpb (lpb 2 a) b) (lq b (lp a (mir c R)) (lq a (mir c R) (xl kx x)) i) := fun i hi => lq_sz (k := b) (r := r) BPg BQg hi
 have BCh : Sz (lpb (lpb 2 a) b) (lc b (lp a (mir c R)) (lq a (mir c R) (xl kx x)) (lc a (mir c R) (xl kx x) cc)) := lc_sz (k := b) (fun i j hi hj => BPg i j (by omega) (by omega)) (fun i hi => BQg i (by omega)) BCg
 have BPj : ∀ i j, i < r → j < r → Sz (lpb 2 (a + b)) (lp (a + b) (mir c R) i j) := fun i j hi hj => lp_sz (k := a + b) (r := r) (n := a + b) (Nat.le_refl _) BP2 hi hj
 have BQj : ∀ i, i < r → Sz (lpb 2 (a + b)) (lq (a + b) (mir c R) (xl kx x) i) := fun i hi => lq_sz (k := a + b) (r := r) BP2 BQ2 hi
 have BCj : Sz (lpb 2 (a + b)) (lc (a + b) (mir c R) (xl kx x) cc) := lc_sz (k := a + b) (fun i j hi hj => BP2 i j (by omega) (by omega)) (fun i hi => BQ2 i (by omega)) BCm
 go_wp2_with fail
 refine (uAwake hZ3.nx).mono ?_
 rintro zz W1 ⟨rfl, hB⟩
 have hZ4 := hZ3.later hB
 clear hB
 clear hZ3
 go_wp2_with fail
 refine (uRead hZ4.nx ra qa 6 (a + (b + r)) (hZ4.get 0 (f := Mi m c R ra) rfl) (hZ4.get 1 (f := Li kx x qa) rfl) rgR.out rgx.out hcc (by omega) hnm hmin).mono ?_
 rintro zz W2 ⟨pf, sf, cf, pd, sd, cd, rfl, hi_pf, hi_sf, ez_cf, hi_cf, hi_pd, hi_sd, ez_cd, hi_cd, hB⟩
 have hZ5 := hZ4.later hB
 clear hB
 clear hZ4
 have hZ6 := hZ5.more (f := Mt (a + (b + r)) (fun _ => a + (b + r)) (mir c R) pf) (Mt.stb _ _ _ _) hi_pf
 clear hZ5
 clear hi_pf
 have hZ7 := hZ6.more (f := Ls (a + (b + r)) (xl kx x) sf) (Ls.stb _ _ _) hi_sf
 clear hZ6
 clear hi_sf
 have hZ8 := hZ7.more (f := cf.is) cf.stb hi_cf
 clear hZ7
 clear hi_cf
 have hZ9 := hZ8.more (f := Mr (a + (b + r)) (fun _ => a + (b + r)) (mir c R) pd) (Mr.stb _ _ _ _) hi_pd
 clear hZ8
 clear hi_pd
 have hZ10 := hZ9.more (f := Lr (a + (b + r)) (xl kx x) sd) (Lr.stb _ _ _) hi_sd
 clear hZ9
 clear hi_sd
 have hZ11 := hZ10.more (f := cd.ir) cd.stbr hi_cd
 clear hZ10
 clear hi_cd
 go_wp2_with (refine stopz_alloc 32 #[.slice none 0 0, .slice none 0 0, .bool false, .slice none 0 0] (.agg #[.slice none 0 0, .slice none 0 0, .bool false, .slice none 0 0]) rfl rfl zv32 rfl hZ11 (fun bk1 X12 W3 hZ12 => ?_))
 clear hZ11
 unfold Stop
 try simp only [Act.put, zzC, zzD, zzE]
 go_wp2_with (refine stopz_alloc 45 #[.slice none 0 0, .slice none 0 0, .bool false, .slice none 0 0] (.agg #[.slice none 0 0, .slice none 0 0, .bool false, .slice none 0 0]) rfl rfl zv45 rfl hZ12 (fun bk2 X13 W4 hZ13 => ?_))
 clear hZ12
 unfold Stop
 try simp only [Act.put, zzC, zzD, zzE]
 go_wp2_with (refine stopz_store 32 (.tmp 14) (.tmp 37) 1 bk1 0 #[.slice none 0 0, .slice none 0 0, .bool false, .slice none 0 0] 32 4 [pf.v, sf.v, .bool cf.b, .slice cf.a cf.n cf.c] #[pf.v, sf.v, .bool cf.b, .slice cf.a cf.n cf.c] [(bk2, #[.slice none 0 0, .slice none 0 0, .bool false, .slice none 0 0], 45), (bk1, #[pf.v, sf.v, .bool cf.b, .slice cf.a cf.n cf.c], 32)] rfl rfl rfl rfl sz32 hZ13 rfl rfl (zzF (by kernel_rfl)) (by kernel_rfl) (by kernel_rfl) (by kernel_rfl) (fun W5 hZ14 => ?_))
 clear hZ13
 unfold Stop
 try simp only [Act.put, zzC, zzD, zzE]
 go_wp2_with (refine stopz_store 45 (.tmp 15) (.tmp 38) 0 bk2 0 #[.slice none 0 0, .slice none 0 0, .bool false, .slice none 0 0] 45 4 [pd.v, sd.v, .bool cd.b, .slice cd.a cd.n cd.c] #[pd.v, sd.v, .bool cd.b, .slice cd.a cd.n cd.c] [(bk2, #[pd.v, sd.v, .bool cd.b, .slice cd.a cd.n cd.c], 45), (bk1, #[pf.v, sf.v, .bool cf.b, .slice cf.a cf.n cf.c], 32)] rfl rfl rfl rfl sz45 hZ14 rfl rfl (zzF (by kernel_rfl)) (by kernel_rfl) (by kernel_rfl) (by kernel_rfl) (fun W6 hZ15 => ?_))
 clear hZ14
 unfold Stop
 try simp only [Act.put, zzC, zzD, zzE]
 go_wp2_with (refine stop_opw (by kernel_rfl) (fun K hK => wp_lssi (.tmp 43) (.const (.int .i64 0)) rfl rfl rfl (r := false) (decide_eq_false (by omega)) (hK _ _ ?_)))
 unfold Stop
 try simp only [Act.put, zzC, zzD, zzE]
 go_wp2_with (refine stop_opw (by kernel_rfl) (fun K hK => wp_lssi (.tmp 47) (.const (.int .i64 0)) rfl rfl rfl (r := false) (decide_eq_false (by omega)) (hK _ _ ?_)))
 unfold Stop
 try simp only [Act.put, zzC, zzD, zzE]
 go_wp2_with (refine stop_opw (by kernel_rfl) (fun K hK => wp_fda (v := .pointer (some ⟨bk1, 0, none⟩)) 32 (.tmp 14) 0 rfl rfl (fun _ => by kernel_rfl) (hK _ _ ?_)))
 unfold Stop
 try simp only [Act.put, zzC, zzD, zzE]
 go_wp2_with (refine stop_opw (by kernel_rfl) (fun K hK => wp_load1 (v := pf.v) 26 (.tmp 52) rfl bk1 0 #[pf.v, sf.v, .bool cf.b, .slice cf.a cf.n cf.c] 32 (hZ15.es.at' _ (zzG (i := 1) rfl)) rfl ag26 (by kernel_rfl) (hK _ _ ?_)))
 unfold Stop
 try simp only [Act.put, zzC, zzD, zzE]
 go_wp2_with (refine stop_opw (by kernel_rfl) (fun K hK => wp_lenq (.tmp 53) 26 27 pf rfl (by kernel_rfl) rfl (hZ15.get 5 (f := Mt (a + (b + r)) (fun _ => a + (b + r)) (mir c R) pf) rfl).n (hK _ _ ?_)))
 unfold Stop
 try simp only [Act.put, zzC, zzD, zzE]
 go_wp2_with (refine stop_opw (by kernel_rfl) (fun K hK => wp_gtri (.tmp 51) (.tmp 54) rfl rfl rfl (r := false) (decide_eq_false (by omega)) (hK _ _ ?_)))
 unfold Stop
 try simp only [Act.put, zzC, zzD, zzE]
 go_wp2_with (refine stop_opw (by kernel_rfl) (fun K hK => wp_fda (v := .pointer (some ⟨bk1, 0, none⟩)) 32 (.tmp 14) 0 rfl rfl (fun _ => by kernel_rfl) (hK _ _ ?_)))
 unfold Stop
 try simp only [Act.put, zzC, zzD, zzE]
 go_wp2_with (refine stop_opw (by kernel_rfl) (fun K hK => wp_load1 (v := pf.v) 26 (.tmp 59) rfl bk1 0 #[pf.v, sf.v, .bool cf.b, .slice cf.a cf.n cf.c] 32 (hZ15.es.at' _ (zzG (i := 1) rfl)) rfl ag26 (by kernel_rfl) (hK _ _ ?_)))
 unfold Stop
 try simp only [Act.put, zzC, zzD, zzE]
 go_wp2_with (refine stop_opw (by kernel_rfl) (fun K hK => wp_lenq (.tmp 60) 26 27 pf rfl (by kernel_rfl) rfl (hZ15.get 5 (f := Mt (a + (b + r)) (fun _ => a + (b + r)) (mir c R) pf) rfl).n (hK _ _ ?_)))
 unfold Stop
 try simp only [Act.put, zzC, zzD, zzE]
 go_wp2_with (refine stop_opw (by kernel_rfl) (fun K hK => wp_subi (.tmp 61) (.tmp 62) rfl rfl rfl (C := ((b + r : Nat) : Int)) (by omega) (by omega) (by omega) (hK _ _ ?_)))
 unfold Stop
 try simp only [Act.put, zzC, zzD, zzE]
 go_wp2_with (refine stop_opw (by kernel_rfl) (fun K hK => wp_gtri (.tmp 58) (.tmp 63) rfl rfl rfl (r := false) (decide_eq_false (by omega)) (hK _ _ ?_)))
 unfold Stop
 try simp only [Act.put, zzC, zzD, zzE]
 go_wp2_with (refine stop_op rfl (fun K hK => wp_load 32 (.tmp 14) rfl bk1 0 4 #[pf.v, sf.v, .bool cf.b, .slice cf.a cf.n cf.c] #[pf.v, sf.v, .bool cf.b, .slice cf.a cf.n cf.c] 32 (hZ15.es.at' _ (zzG (i := 1) rfl)) rfl ag32 sz32 (zzF (by kernel_rfl)) (by kernel_rfl) (hK _ _ ?_)))
 unfold Stop
 try simp only [Act.put, zzC, zzD, zzE]
 go_wp2_with fail
 refine (uWoY hZ15.nx pf sf cf (k := a) (r := b + r) (e := 2) (hZ15.get 5 (f := Mt (a + (b + r)) (fun _ => a + (b + r)) (mir c R) pf) rfl) (hZ15.get 4 (f := Ls (a + (b + r)) (xl kx x) sf) rfl) (hZ15.get 3 (f := cf.is) rfl) ez_cf BPm BQm BCm (fun i j _ _ => mir_sym c R i j) (by omega) (by omega) (by omega) (by omega) HA.out HDa.out).mono ?_
 rintro zz W7 ⟨pg, sg, cg, dg, rfl, hi_pg, hi_sg, ez_cg, hi_cg, ez_dg, hi_dg, hB⟩
 have hZ16 := hZ15.later hB
 clear hB
 clear hZ15
 have hZ17 := hZ16.more (f := Mt (b + r) (fun _ => b + r) (lp a (mir c R)) pg) (Mt.stb _ _ _ _) hi_pg
 clear hZ16
 clear hi_pg
 have hZ18 := hZ17.more (f := Ls (b + r) (lq a (mir c R) (xl kx x)) sg) (Ls.stb _ _ _) hi_sg
 clear hZ17
 clear hi_sg
 have hZ19 := hZ18.more (f := cg.is) cg.stb hi_cg
 clear hZ18
 clear hi_cg
 have hZ20 := hZ19.more (f := dg.is) dg.stb hi_dg
 clear hZ19
 clear hi_dg
 go_wp2_with (refine stopz_alloc 32 #[.slice none 0 0, .slice none 0 0, .bool false, .slice none 0 0] (.agg #[.slice none 0 0, .slice none 0 0, .bool false, .slice none 0 0]) rfl rfl zv32 rfl hZ20 (fun bk3 X21 W8 hZ21 => ?_))
 clear hZ20
 unfold Stop
 try simp only [Act.put, zzC, zzD, zzE]
 go_wp2_with (refine stopz_alloc 30 #[.bool false, .slice none 0 0] (.agg #[.bool false, .slice none 0 0]) rfl rfl zv30 rfl hZ21 (fun bk4 X22 W9 hZ22 => ?_))
 clear hZ21
 unfold Stop
 try simp only [Act.put, zzC, zzD, zzE]
 go_wp2_with (refine stopz_store 32 (.tmp 17) (.tmp 71) 1 bk3 0 #[.slice none 0 0, .slice none 0 0, .bool false, .slice none 0 0] 32 4 [pg.v, sg.v, .bool cg.b, .slice cg.a cg.n cg.c] #[pg.v, sg.v, .bool cg.b, .slice cg.a cg.n cg.c] [(bk4, #[.bool false, .slice none 0 0], 30), (bk3, #[pg.v, sg.v, .bool cg.b, .slice cg.a cg.n cg.c], 32), (bk2, #[pd.v, sd.v, .bool cd.b, .slice cd.a cd.n cd.c], 45), (bk1, #[pf.v, sf.v, .bool cf.b, .slice cf.a cf.n cf.c], 32)] rfl rfl rfl rfl sz32 hZ22 rfl rfl (zzF (by kernel_rfl)) (by kernel_rfl) (by kernel_rfl) (by kernel_rfl) (fun W10 hZ23 => ?_))
 clear hZ22
 unfold Stop
 try simp only [Act.put, zzC, zzD, zzE]
 go_wp2_with (refine stopz_store 30 (.tmp 18) (.tmp 72) 0 bk4 0 #[.bool false, .slice none 0 0] 30 2 [.bool dg.b, .slice dg.a dg.n dg.c] #[.bool dg.b, .slice dg.a dg.n dg.c] [(bk4, #[.bool dg.b, .slice dg.a dg.n dg.c], 30), (bk3, #[pg.v, sg.v, .bool cg.b, .slice cg.a cg.n cg.c], 32), (bk2, #[pd.v, sd.v, .bool cd.b, .slice cd.a cd.n cd.c], 45), (bk1, #[pf.v, sf.v, .bool cf.b, .slice cf.a cf.n cf.c], 32)] rfl rfl rfl rfl sz30 hZ23 rfl rfl (zzF (by kernel_rfl)) (by kernel_rfl) (by kernel_rfl) (by kernel_rfl) (fun W11 hZ24 => ?_))
 clear hZ23
 unfold Stop
 try simp only [Act.put, zzC, zzD, zzE]
 go_wp2_with (refine stop_op rfl (fun K hK => wp_load 32 (.tmp 17) rfl bk3 0 4 #[pg.v, sg.v, .bool cg.b, .slice cg.a cg.n cg.c] #[pg.v, sg.v, .bool cg.b, .slice cg.a cg.n cg.c] 32 (hZ24.es.at' _ (zzG (i := 1) rfl)) rfl ag32 sz32 (zzF (by kernel_rfl)) (by kernel_rfl) (hK _ _ ?_)))
 unfold Stop
 try simp only [Act.put, zzC, zzD, zzE]
 go_wp2_with fail
 refine (uWoY hZ24.nx pg sg cg (k := b) (r := r) (e := (lpb 2 a)) (hZ24.get 3 (f := Mt (b + r) (fun _ => b + r) (lp a (mir c R)) pg) rfl) (hZ24.get 2 (f := Ls (b + r) (lq a (mir c R) (xl kx x)) sg) rfl) (hZ24.get 1 (f := cg.is) rfl) ez_cg BPg BQg BCg HSg.out (by omega) (by omega) (by omega) (by omega) HB.out HDb.out).mono ?_
 rintro zz W12 ⟨ph, sh, ch, dh, rfl, hi_ph, hi_sh, ez_ch, hi_ch, ez_dh, hi_dh, hB⟩
 have hZ25 := hZ24.later hB
 clear hB
 clear hZ24
 have hZ26 := hZ25.more (f := Mt r (fun _ => r) (lp b (lp a (mir c R))) ph) (Mt.stb _ _ _ _) hi_ph
 clear hZ25
 clear hi_ph
 have hZ27 := hZ26.more (f := Ls r (lq b (lp a (mir c R)) (lq a (mir c R) (xl kx x))) sh) (Ls.stb _ _ _) hi_sh
 clear hZ26
 clear hi_sh
 have hZ28 := hZ27.more (f := ch.is) ch.stb hi_ch
 clear hZ27
 clear hi_ch
 have hZ29 := hZ28.more (f := dh.is) dh.stb hi_dh
 clear hZ28
 clear hi_dh
 go_wp2_with (refine stopz_alloc 32 #[.slice none 0 0, .slice none 0 0, .bool false, .slice none 0 0] (.agg #[.slice none 0 0, .slice none 0 0, .bool false, .slice none 0 0]) rfl rfl zv32 rfl hZ29 (fun bk5 X30 W13 hZ30 => ?_))
 clear hZ29
 unfold Stop
 try simp only [Act.put, zzC, zzD, zzE]
 go_wp2_with (refine stopz_alloc 30 #[.bool false, .slice none 0 0] (.agg #[.bool false, .slice none 0 0]) rfl rfl zv30 rfl hZ30 (fun bk6 X31 W14 hZ31 => ?_))
 clear hZ30
 unfold Stop
 try simp only [Act.put, zzC, zzD, zzE]
 go_wp2_with (refine stopz_store 32 (.tmp 20) (.tmp 81) 1 bk5 0 #[.slice none 0 0, .slice none 0 0, .bool false, .slice none 0 0] 32 4 [ph.v, sh.v, .bool ch.b, .slice ch.a ch.n ch.c] #[ph.v, sh.v, .bool ch.b, .slice ch.a ch.n ch.c] [(bk6, #[.bool false, .slice none 0 0], 30), (bk5, #[ph.v, sh.v, .bool ch.b, .slice ch.a ch.n ch.c], 32), (bk4, #[.bool dg.b, .slice dg.a dg.n dg.c], 30), (bk3, #[pg.v, sg.v, .bool cg.b, .slice cg.a cg.n cg.c], 32), (bk2, #[pd.v, sd.v, .bool cd.b, .slice cd.a cd.n cd.c], 45), (bk1, #[pf.v, sf.v, .bool cf.b, .slice cf.a cf.n cf.c], 32)] rfl rfl rfl rfl sz32 hZ31 rfl rfl (zzF (by kernel_rfl)) (by kernel_rfl) (by kernel_rfl) (by kernel_rfl) (fun W15 hZ32 => ?_))
 clear hZ31
 unfold Stop
 try simp only [Act.put, zzC, zzD, zzE]
 go_wp2_with (refine stopz_store 30 (.tmp 21) (.tmp 82) 0 bk6 0 #[.bool false, .slice none 0 0] 30 2 [.bool dh.b, .slice dh.a dh.n dh.c] #[.bool dh.b, .slice dh.a dh.n dh.c] [(bk6, #[.bool dh.b, .slice dh.a dh.n dh.c], 30), (bk5, #[ph.v, sh.v, .bool ch.b, .slice ch.a ch.n ch.c], 32), (bk4, #[.bool dg.b, .slice dg.a dg.n dg.c], 30), (bk3, #[pg.v, sg.v, .bool cg.b, .slice cg.a cg.n cg.c], 32), (bk2, #[pd.v, sd.v, .bool cd.b, .slice cd.a cd.n cd.c], 45), (bk1, #[pf.v, sf.v, .bool cf.b, .slice cf.a cf.n cf.c], 32)] rfl rfl rfl rfl sz30 hZ32 rfl rfl (zzF (by kernel_rfl)) (by kernel_rfl) (by kernel_rfl) (by kernel_rfl) (fun W16 hZ33 => ?_))
 clear hZ32
 unfold Stop
 try simp only [Act.put, zzC, zzD, zzE]
 go_wp2_with (refine stop_op rfl (fun K hK => wp_load 32 (.tmp 14) rfl bk1 0 4 #[pf.v, sf.v, .bool cf.b, .slice cf.a cf.n cf.c] #[pf.v, sf.v, .bool cf.b, .slice cf.a cf.n cf.c] 32 (hZ33.es.at' _ (zzG (i := 5) rfl)) rfl ag32 sz32 (zzF (by kernel_rfl)) (by kernel_rfl) (hK _ _ ?_)))
 unfold Stop
 try simp only [Act.put, zzC, zzD, zzE]
 go_wp2_with (refine stop_op rfl (fun K hK => wp_addi (.tmp 86) (.tmp 87) rfl rfl rfl (C := ((a + b : Nat) : Int)) (by omega) (by omega) (by omega) (hK _ _ ?_)))
 unfold Stop
 try simp only [Act.put, zzC, zzD, zzE]
 go_wp2_with fail
 refine (uWoY hZ33.nx pf sf cf (k := a + b) (r := r) (e := 2) (Mt.cast2 (show a + (b + r) = a + b + r by omega) (hZ33.get 13 (f := Mt (a + (b + r)) (fun _ => a + (b + r)) (mir c R) pf) rfl)) (Ls.cast (show a + (b + r) = a + b + r by omega) (hZ33.get 12 (f := Ls (a + (b + r)) (xl kx x) sf) rfl)) (hZ33.get 11 (f := cf.is) rfl) ez_cf BP2 BQ2 BCm (fun i j _ _ => mir_sym c R i j) (by omega) (by omega) (by omega) (by omega) HAB.out HDab.out).mono ?_
 rintro zz W17 ⟨pj, sj, cj, dj, rfl, hi_pj, hi_sj, ez_cj, hi_cj, ez_dj, hi_dj, hB⟩
 have hZ34 := hZ33.later hB
 clear hB
 clear hZ33
 have hZ35 := hZ34.more (f := Mt r (fun _ => r) (lp (a + b) (mir c R)) pj) (Mt.stb _ _ _ _) hi_pj
 clear hZ34
 clear hi_pj
 have hZ36 := hZ35.more (f := Ls r (lq (a + b) (mir c R) (xl kx x)) sj) (Ls.stb _ _ _) hi_sj
 clear hZ35
 clear hi_sj
 have hZ37 := hZ36.more (f := cj.is) cj.stb hi_cj
 clear hZ36
 clear hi_cj
 have hZ38 := hZ37.more (f := dj.is) dj.stb hi_dj
 clear hZ37
 clear hi_dj
 go_wp2_with (refine stopz_alloc 32 #[.slice none 0 0, .slice none 0 0, .bool false, .slice none 0 0] (.agg #[.slice none 0 0, .slice none 0 0, .bool false, .slice none 0 0]) rfl rfl zv32 rfl hZ38 (fun bk7 X39 W18 hZ39 => ?_))
 clear hZ38
 unfold Stop
 try simp only [Act.put, zzC, zzD, zzE]
 go_wp2_with (refine stopz_alloc 30 #[.bool false, .slice none 0 0] (.agg #[.bool false, .slice none 0 0]) rfl rfl zv30 rfl hZ39 (fun bk8 X40 W19 hZ40 => ?_))
 clear hZ39
 unfold Stop
 try simp only [Act.put, zzC, zzD, zzE]
 go_wp2_with (refine stopz_store 32 (.tmp 23) (.tmp 90) 1 bk7 0 #[.slice none 0 0, .slice none 0 0, .bool false, .slice none 0 0] 32 4 [pj.v, sj.v, .bool cj.b, .slice cj.a cj.n cj.c] #[pj.v, sj.v, .bool cj.b, .slice cj.a cj.n cj.c] [(bk8, #[.bool false, .slice none 0 0], 30), (bk7, #[pj.v, sj.v, .bool cj.b, .slice cj.a cj.n cj.c], 32), (bk6, #[.bool dh.b, .slice dh.a dh.n dh.c], 30), (bk5, #[ph.v, sh.v, .bool ch.b, .slice ch.a ch.n ch.c], 32), (bk4, #[.bool dg.b, .slice dg.a dg.n dg.c], 30), (bk3, #[pg.v, sg.v, .bool cg.b, .slice cg.a cg.n cg.c], 32), (bk2, #[pd.v, sd.v, .bool cd.b, .slice cd.a cd.n cd.c], 45), (bk1, #[pf.v, sf.v, .bool cf.b, .slice cf.a cf.n cf.c], 32)] rfl rfl rfl rfl sz32 hZ40 rfl rfl (zzF (by kernel_rfl)) (by kernel_rfl) (by kernel_rfl) (by kernel_rfl) (fun W20 hZ41 => ?_))
 clear hZ40
 unfold Stop
 try simp only [Act.put, zzC, zzD, zzE]
 go_wp2_with (refine stopz_store 30 (.tmp 24) (.tmp 91) 0 bk8 0 #[.bool false, .slice none 0 0] 30 2 [.bool dj.b, .slice dj.a dj.n dj.c] #[.bool dj.b, .slice dj.a dj.n dj.c] [(bk8, #[.bool dj.b, .slice dj.a dj.n dj.c], 30), (bk7, #[pj.v, sj.v, .bool cj.b, .slice cj.a cj.n cj.c], 32), (bk6, #[.bool dh.b, .slice dh.a dh.n dh.c], 30), (bk5, #[ph.v, sh.v, .bool ch.b, .slice ch.a ch.n ch.c], 32), (bk4, #[.bool dg.b, .slice dg.a dg.n dg.c], 30), (bk3, #[pg.v, sg.v, .bool cg.b, .slice cg.a cg.n cg.c], 32), (bk2, #[pd.v, sd.v, .bool cd.b, .slice cd.a cd.n cd.c], 45), (bk1, #[pf.v, sf.v, .bool cf.b, .slice cf.a cf.n cf.c], 32)] rfl rfl rfl rfl sz30 hZ41 rfl rfl (zzF (by kernel_rfl)) (by kernel_rfl) (by kernel_rfl) (by kernel_rfl) (fun W21 hZ42 => ?_))
 clear hZ41
 unfold Stop
 try simp only [Act.put, zzC, zzD, zzE]
 go_wp2_with (refine stop_op rfl (fun K hK => wp_fda (v := .pointer (some ⟨bk1, 0, none⟩)) 32 (.tmp 14) 0 rfl rfl (fun _ => by kernel_rfl) (hK _ _ ?_)))
 unfold Stop
 try simp only [Act.put, zzC, zzD, zzE]
 go_wp2_with (refine stop_op rfl (fun K hK => wp_load1 (v := pf.v) 26 (.tmp 107) rfl bk1 0 #[pf.v, sf.v, .bool cf.b, .slice cf.a cf.n cf.c] 32 (hZ42.es.at' _ (zzG (i := 7) rfl)) rfl ag26 (by kernel_rfl) (hK _ _ ?_)))
 unfold Stop
 try simp only [Act.put, zzC, zzD, zzE]
 go_wp2_with (refine stop_op rfl (fun K hK => wp_lenq (.tmp 108) 26 27 pf rfl (by kernel_rfl) rfl (hZ42.get 17 (f := Mt (a + (b + r)) (fun _ => a + (b + r)) (mir c R) pf) rfl).n (hK _ _ ?_)))
 unfold Stop
 try simp only [Act.put, zzC, zzD, zzE]
 go_wp2_with (refine stop_op rfl (fun K hK => wp_subi (.tmp 109) (.tmp 110) rfl rfl rfl (C := ((b + r : Nat) : Int)) (by omega) (by omega) (by omega) (hK _ _ ?_)))
 unfold Stop
 try simp only [Act.put, zzC, zzD, zzE]
 go_wp2_with (refine stop_op rfl (fun K hK => wp_subi (.tmp 111) (.tmp 112) rfl rfl rfl (C := ((r : Nat) : Int)) (by omega) (by omega) (by omega) (hK _ _ ?_)))
 unfold Stop
 try simp only [Act.put, zzC, zzD, zzE]
 go_wp2_with fail
 refine (uList hZ42.nx la r (hZ42.get 20 (f := Li kl xl_ la) rfl) (by omega) rgl.out).mono ?_
 rintro zz W22 ⟨s2, d2, rfl, hi_s2, hi_d2, hB⟩
 have hZ43 := hZ42.later hB
 clear hB
 clear hZ42
 have hZ44 := hZ43.more (f := Ls r (xl kl xl_) s2) (Ls.stb _ _ _) hi_s2
 clear hZ43
 clear hi_s2
 have hZ45 := hZ44.more (f := Lr r (xl kl xl_) d2) (Lr.stb _ _ _) hi_d2
 clear hZ44
 clear hi_d2
 go_wp2
 obtain ⟨XR13, hZ46⟩ : ∃ Xr, Zs w W22 X0 Xr [(bk8, #[.bool dj.b, .slice dj.a dj.n dj.c], 30), (bk7, #[pj.v, sj.v, .bool cj.b, .slice cj.a cj.n cj.c], 32), (bk6, #[.bool dh.b, .slice dh.a dh.n dh.c], 30), (bk5, #[ph.v, sh.v, .bool ch.b, .slice ch.a ch.n ch.c], 32), (bk4, #[.bool dg.b, .slice dg.a dg.n dg.c], 30), (bk3, #[pg.v, sg.v, .bool cg.b, .slice cg.a cg.n cg.c], 32), (bk2, #[pd.v, sd.v, .bool cd.b, .slice cd.a cd.n cd.c], 45), (bk1, #[pf.v, sf.v, .bool cf.b, .slice cf.a cf.n cf.c], 32)] [Lr r (xl kl xl_) d2, Ls r (xl kl xl_) s2, dj.is, cj.is, Ls r (lq (a + b) (mir c R) (xl kx x)) sj, Mt r (fun _ => r) (lp (a + b) (mir c R)) pj, dh.is, ch.is, Ls r (lq b (lp a (mir c R)) (lq a (mir c R) (xl kx x))) sh, Mt r (fun _ => r) (lp b (lp a (mir c R))) ph, dg.is, cg.is, Ls (b + r) (lq a (mir c R) (xl kx x)) sg, Mt (b + r) (fun _ => b + r) (lp a (mir c R)) pg, cd.ir, Lr (a + (b + r)) (xl kx x) sd, Mr (a + (b + r)) (fun _ => a + (b + r)) (mir c R) pd, cf.is, Ls (a + (b + r)) (xl kx x) sf, Mt (a + (b + r)) (fun _ => a + (b + r)) (mir c R) pf, Mi m c R ra, Li kx x qa, Li kl xl_ la] := ⟨_, hZ45⟩
 clear hZ45
 have hVS13 : ∀ kq, kq ∈ ([veq (.agg #[ph.v, sh.v, .bool ch.b, .slice ch.a ch.n ch.c]), veq (s2.v), vnum (Vq r (lp b (lp a (mir c R))) (lq b (lp a (mir c R)) (lq a (mir c R) (xl kx x))) (lc b (lp a (mir c R)) (lq a (mir c R) (xl kx x)) (lc a (mir c R) (xl kx x) cc)) (xl kl xl_)), veq (dj.v), vnum ((Vq r (lp b (lp a (mir c R))) (lq b (lp a (mir c R)) (lq a (mir c R) (xl kx x))) (lc b (lp a (mir c R)) (lq a (mir c R) (xl kx x)) (lc a (mir c R) (xl kx x) cc)) (xl kl xl_)) * (M.dt (a + b) (mir c R))), vany] : List VF) → VSt kq := by
  intro kq hkq
  simp only [List.mem_cons, List.not_mem_nil, or_false] at hkq
  rcases hkq with rfl | rfl | rfl | rfl | rfl | rfl
  ·
   exact (veq_se _).st
  ·
   exact (veq_se _).st
  ·
   exact (vnum_se _).st
  ·
   exact (veq_se _).st
  ·
   exact (vnum_se _).st
  ·
   exact (vany_se).st
 have hVE13 : ∀ kq, kq ∈ ([veq (.agg #[ph.v, sh.v, .bool ch.b, .slice ch.a ch.n ch.c]), veq (s2.v), vnum (Vq r (lp b (lp a (mir c R))) (lq b (lp a (mir c R)) (lq a (mir c R) (xl kx x))) (lc b (lp a (mir c R)) (lq a (mir c R) (xl kx x)) (lc a (mir c R) (xl kx x) cc)) (xl kl xl_)), veq (dj.v), vnum ((Vq r (lp b (lp a (mir c R))) (lq b (lp a (mir c R)) (lq a (mir c R) (xl kx x))) (lc b (lp a (mir c R)) (lq a (mir c R) (xl kx x)) (lc a (mir c R) (xl kx x) cc)) (xl kl xl_)) * (M.dt (a + b) (mir c R))), vany] : List VF) → VSe kq := by
  intro kq hkq
  simp only [List.mem_cons, List.not_mem_nil, or_false] at hkq
  rcases hkq with rfl | rfl | rfl | rfl | rfl | rfl
  ·
   exact veq_se _
  ·
   exact veq_se _
  ·
   exact vnum_se _
  ·
   exact veq_se _
  ·
   exact vnum_se _
  ·
   exact vany_se
 refine wp_region_s 6 [some 117, some 118, some 119, some 120, some 121, some 28] [veq (.agg #[ph.v, sh.v, .bool ch.b, .slice ch.a ch.n ch.c]), veq (s2.v), vnum (Vq r (lp b (lp a (mir c R))) (lq b (lp a (mir c R)) (lq a (mir c R) (xl kx x))) (lc b (lp a (mir c R)) (lq a (mir c R) (xl kx x)) (lc a (mir c R) (xl kx x) cc)) (xl kl xl_)), veq (dj.v), vnum ((Vq r (lp b (lp a (mir c R))) (lq b (lp a (mir c R)) (lq a (mir c R) (xl kx x))) (lc b (lp a (mir c R)) (lq a (mir c R) (xl kx x)) (lc a (mir c R) (xl kx x) cc)) (xl kl xl_)) * (M.dt (a + b) (mir c R))), vany] (RelA 5 XR13 [(bk8, #[.bool dj.b, .slice dj.a dj.n dj.c], 30), (bk7, #[pj.v, sj.v, .bool cj.b, .slice cj.a cj.n cj.c], 32), (bk6, #[.bool dh.b, .slice dh.a dh.n dh.c], 30), (bk5, #[ph.v, sh.v, .bool ch.b, .slice ch.a ch.n ch.c], 32), (bk4, #[.bool dg.b, .slice dg.a dg.n dg.c], 30), (bk3, #[pg.v, sg.v, .bool cg.b, .slice cg.a cg.n cg.c], 32), (bk2, #[pd.v, sd.v, .bool cd.b, .slice cd.a cd.n cd.c], 45), (bk1, #[pf.v, sf.v, .bool cf.b, .slice cf.a cf.n cf.c], 32)] 30 (fun C => C = #[.bool false, .slice none 0 0])) [Lr r (xl kl xl_) d2, Ls r (xl kl xl_) s2, dj.is, cj.is, Ls r (lq (a + b) (mir c R) (xl kx x)) sj, Mt r (fun _ => r) (lp (a + b) (mir c R)) pj, dh.is, ch.is, Ls r (lq b (lp a (mir c R)) (lq a (mir c R) (xl kx x))) sh, Mt r (fun _ => r) (lp b (lp a (mir c R))) ph, dg.is, cg.is, Ls (b + r) (lq a (mir c R) (xl kx x)) sg, Mt (b + r) (fun _ => b + r) (lp a (mir c R)) pg, cd.ir, Lr (a + (b + r)) (xl kx x) sd, Mr (a + (b + r)) (fun _ => a + (b + r)) (mir c R) pd, cf.is, Ls (a + (b + r)) (xl kx x) sf, Mt (a + (b + r)) (fun _ => a + (b + r)) (mir c R) pf, Mi m c R ra, Li kx x qa, Li kl xl_ la] (by kernel_rfl) (by kernel_rfl) (by rfl) (by decide) (by rfl) (fun u => ⟨XR13, [(bk8, #[.bool dj.b, .slice dj.a dj.n dj.c], 30), (bk7, #[pj.v, sj.v, .bool cj.b, .slice cj.a cj.n cj.c], 32), (bk6, #[.bool dh.b, .slice dh.a dh.n dh.c], 30), (bk5, #[ph.v, sh.v, .bool ch.b, .slice ch.a ch.n ch.c], 32), (bk4, #[.bool dg.b, .slice dg.a dg.n dg.c], 30), (bk3, #[pg.v, sg.v, .bool cg.b, .slice cg.a cg.n cg.c], 32), (bk2, #[pd.v, sd.v, .bool cd.b, .slice cd.a cd.n cd.c], 45), (bk1, #[pf.v, sf.v, .bool cf.b, .slice cf.a cf.n cf.c], 32)], RelA.start, hZ46.later (Below.refl _ _).drew⟩) ?_ ?_
 ·
  intro iq hlq hiq LL uu ww aa X1 l1 hLi hLc hR hJ hd hall hev hin hold
  clear hZ46
  obtain rfl | rfl | rfl | rfl | rfl | rfl : iq = 0 ∨ iq = 1 ∨ iq = 2 ∨ iq = 3 ∨ iq = 4 ∨ iq = 5 := by omega
  ·
   refine opS_z hJ (fun _ => hR.keep (by decide) _) ?_
   exact .inr ⟨rfl, fun K' hK => wp_load 32 (.tmp 20) rfl bk5 0 4 #[ph.v, sh.v, .bool ch.b, .slice ch.a ch.n ch.c] #[ph.v, sh.v, .bool ch.b, .slice ch.a ch.n ch.c] 32 (hJ.es.at' _ (hR.1 _ (zzG (i := 3) rfl))) (eval_tmp ((hev 20 (by decide)).trans rfl)) ag32 sz32 (zzF (by kernel_rfl)) (by kernel_rfl) (hK _ _ hJ rfl vzL_same)⟩
  ·
   refine opS_z hJ (fun _ => hR.keep (by decide) _) ?_
   exact .inr ⟨rfl, fun K' hK => wp_move (.tmp 26) rfl (eval_tmp ((hev 26 (by decide)).trans rfl)) (hK _ _ hJ rfl vzL_same)⟩
  ·
   refine opS_z hJ (fun _ => hR.keep (by decide) _) ?_
   refine .inr ⟨rfl, fun K' hK => ?_⟩
   refine wp_callz (.func 16) #[.tmp 117, .tmp 118] #[32, 27] 16 #[] #[.agg #[ph.v, sh.v, .bool ch.b, .slice ch.a ch.n ch.c], s2.v] _ rfl rfl (map2 (eval_tmp ((hin 0 117 rfl).trans (congrArg some (show uu 0 = .agg #[ph.v, sh.v, .bool ch.b, .slice ch.a ch.n ch.c] from (hd 0 (by decide) (by kernel_rfl)).2)))) (eval_tmp ((hin 1 118 rfl).trans (congrArg some (show uu 1 = s2.v from (hd 1 (by decide) (by kernel_rfl)).2))))) rfl (fun _ _ => rfl) (uValue hJ.nx ph sh ch (e := ((lpb (lpb 2 a) b) + 2)) s2 (hJ.get 9 (f := Mt r (fun _ => r) (lp b (lp a (mir c R))) ph) rfl) (hJ.get 8 (f := Ls r (lq b (lp a (mir c R)) (lq a (mir c R) (xl kx x))) sh) rfl) (hJ.get 7 (f := ch.is) rfl) ez_ch (hJ.get 1 (f := Ls r (xl kl xl_) s2) rfl) (fun (i j : Nat) hi hj => (BPh i j hi hj).mono (by omega)) (fun (i : Nat) hi => (BQh i hi).mono (by omega)) (BCh.mono (by omega)) (fun (i : Nat) hi => ((fun (i : Nat) _ => BXm i) i hi).mono (by omega)) (by omega) (by omega)) ?_
   rintro zz ww2 ⟨q3, rfl, ez_q3, hi_q3, hB⟩
   exact ⟨_, rfl, hK _ _ (hJ.later hB) ⟨q3, rfl, ez_q3, hi_q3⟩ (vzL_later hVS13 hB)⟩
  ·
   refine opS_z hJ (fun _ => hR.keep (by decide) _) ?_
   exact .inr ⟨rfl, fun K' hK => wp_load 30 (.tmp 24) rfl bk8 0 2 #[.bool dj.b, .slice dj.a dj.n dj.c] #[.bool dj.b, .slice dj.a dj.n dj.c] 30 (hJ.es.at' _ (hR.1 _ (zzG (i := 0) rfl))) (eval_tmp ((hev 24 (by decide)).trans rfl)) ag30 sz30 (zzF (by kernel_rfl)) (by kernel_rfl) (hK _ _ hJ rfl vzL_same)⟩
  ·
   refine opS_z hJ (fun _ => hR.keep (by decide) _) ?_
   obtain ⟨q3, e2, ez_q3, hi_q3⟩ := (show (vnum (Vq r (lp b (lp a (mir c R))) (lq b (lp a (mir c R)) (lq a (mir c R) (xl kx x))) (lc b (lp a (mir c R)) (lq a (mir c R) (xl kx x)) (lc a (mir c R) (xl kx x) cc)) (xl kl xl_))) (uu 2) X1 ww from (hd 2 (by decide) (by kernel_rfl)).2)
   replace hJ := hJ.more (f := q3.is) q3.stb hi_q3
   refine .inr ⟨rfl, fun K' hK => ?_⟩
   refine wp_callz (.func 32) #[.tmp 119, .tmp 120] #[30, 30] 32 #[] #[q3.v, dj.v] _ rfl rfl (map2 (eval_tmp ((hin 2 119 rfl).trans (congrArg some e2))) (eval_tmp ((hin 3 120 rfl).trans (congrArg some (show uu 3 = dj.v from (hd 3 (by decide) (by kernel_rfl)).2))))) rfl (fun _ _ => rfl) (zMul hJ.nx (hJ.get 0 (f := q3.is) rfl) (hJ.get 3 (f := dj.is) rfl) ez_q3 ez_dj (vq_sz (e := ((lpb (lpb 2 a) b) + 2)) (fun (i j : Nat) hi hj => (BPh i j hi hj).mono (by omega)) (fun (i : Nat) hi => (BQh i hi).mono (by omega)) (BCh.mono (by omega)) (fun (i : Nat) hi => ((fun (i : Nat) _ => BXm i) i hi).mono (by omega))) (dt_sz (fun (i j : Nat) hi hj => BP2 i j (by omega) (by omega))) (by omega) (by omega)) ?_
   rintro zz ww2 ⟨q4, rfl, ez_q4, hi_q4, hB⟩
   exact ⟨_, rfl, hK _ _ ((hJ.only [Lr r (xl kl xl_) d2, Ls r (xl kl xl_) s2, dj.is, cj.is, Ls r (lq (a + b) (mir c R) (xl kx x)) sj, Mt r (fun _ => r) (lp (a + b) (mir c R)) pj, dh.is, ch.is, Ls r (lq b (lp a (mir c R)) (lq a (mir c R) (xl kx x))) sh, Mt r (fun _ => r) (lp b (lp a (mir c R))) ph, dg.is, cg.is, Ls (b + r) (lq a (mir c R) (xl kx x)) sg, Mt (b + r) (fun _ => b + r) (lp a (mir c R)) pg, cd.ir, Lr (a + (b + r)) (xl kx x) sd, Mr (a + (b + r)) (fun _ => a + (b + r)) (mir c R) pd, cf.is, Ls (a + (b + r)) (xl kx x) sf, Mt (a + (b + r)) (fun _ => a + (b + r)) (mir c R) pf, Mi m c R ra, Li kx x qa, Li kl xl_ la] (by simp)).later hB) ⟨q4, rfl, ez_q4, hi_q4⟩ (vzL_later hVS13 hB)⟩
  ·
   obtain ⟨eX, el⟩ := hR.no hLi
   subst el
   subst eX
   exact .inr ⟨rfl, fun K' hK => wp_alloc 30 rfl (.agg #[.bool false, .slice none 0 0]) zv30 (hK _ _ _ _ (RelA.made rfl rfl) (hJ.new #[.bool false, .slice none 0 0] 30) trivial (vzL_e hVE13 (ext_new _ _ _ _)))⟩
 clear hZ46
 intro LL uu W23 X1 l1 hLL hR hZ47 hd
 obtain ⟨bk9, CA, eA, hsA, el⟩ := hR.yes (hLL 5 (by decide))
 subst el
 subst hsA
 have e_0 : uu 0 = .agg #[ph.v, sh.v, .bool ch.b, .slice ch.a ch.n ch.c] := hd 0 (by decide)
 have e_1 : uu 1 = s2.v := hd 1 (by decide)
 obtain ⟨q3, e_2, ez_q3, hi_q3⟩ := (show (vnum (Vq r (lp b (lp a (mir c R))) (lq b (lp a (mir c R)) (lq a (mir c R) (xl kx x))) (lc b (lp a (mir c R)) (lq a (mir c R) (xl kx x)) (lc a (mir c R) (xl kx x) cc)) (xl kl xl_))) (uu 2) X1 W23 from hd 2 (by decide))
 have e_3 : uu 3 = dj.v := hd 3 (by decide)
 obtain ⟨q4, e_4, ez_q4, hi_q4⟩ := (show (vnum ((Vq r (lp b (lp a (mir c R))) (lq b (lp a (mir c R)) (lq a (mir c R) (xl kx x))) (lc b (lp a (mir c R)) (lq a (mir c R) (xl kx x)) (lc a (mir c R) (xl kx x) cc)) (xl kl xl_)) * (M.dt (a + b) (mir c R)))) (uu 4) X1 W23 from hd 4 (by decide))
 have e_5 : uu 5 = .pointer (some ⟨bk9, 0, none⟩) := eA
 clear hd hVS13 hVE13
 simp only [layS, Act.put, zzC, zzD, zzE, Nat.zero_add, Nat.reduceAdd, List.drop_succ_cons, List.drop_zero, List.drop_nil, e_0, e_1, e_2, e_3, e_4, e_5]
 clear e_0 e_1 e_2 e_3 e_4 e_5
 have hZ48 := hZ47.more (f := q3.is) q3.stb hi_q3
 clear hZ47
 clear hi_q3
 have hZ49 := hZ48.more (f := q4.is) q4.stb hi_q4
 clear hZ48
 clear hi_q4
 go_wp2_with (refine stopz_store 30 (.tmp 28) (.tmp 121) 0 bk9 0 #[.bool false, .slice none 0 0] 30 2 [.bool q4.b, .slice q4.a q4.n q4.c] #[.bool q4.b, .slice q4.a q4.n q4.c] [(bk9, #[.bool q4.b, .slice q4.a q4.n q4.c], 30), (bk8, #[.bool dj.b, .slice dj.a dj.n dj.c], 30), (bk7, #[pj.v, sj.v, .bool cj.b, .slice cj.a cj.n cj.c], 32), (bk6, #[.bool dh.b, .slice dh.a dh.n dh.c], 30), (bk5, #[ph.v, sh.v, .bool ch.b, .slice ch.a ch.n ch.c], 32), (bk4, #[.bool dg.b, .slice dg.a dg.n dg.c], 30), (bk3, #[pg.v, sg.v, .bool cg.b, .slice cg.a cg.n cg.c], 32), (bk2, #[pd.v, sd.v, .bool cd.b, .slice cd.a cd.n cd.c], 45), (bk1, #[pf.v, sf.v, .bool cf.b, .slice cf.a cf.n cf.c], 32)] rfl rfl rfl rfl sz30 hZ49 rfl rfl (zzF (by kernel_rfl)) (by kernel_rfl) (by kernel_rfl) (by kernel_rfl) (fun W24 hZ50 => ?_))
 clear hZ49
 unfold Stop
 try simp only [Act.put, zzC, zzD, zzE]
 go_wp2
 obtain ⟨XR14, hZ51⟩ : ∃ Xr, Zs w W24 X0 Xr [(bk9, #[.bool q4.b, .slice q4.a q4.n q4.c], 30), (bk8, #[.bool dj.b, .slice dj.a dj.n dj.c], 30), (bk7, #[pj.v, sj.v, .bool cj.b, .slice cj.a cj.n cj.c], 32), (bk6, #[.bool dh.b, .slice dh.a dh.n dh.c], 30), (bk5, #[ph.v, sh.v, .bool ch.b, .slice ch.a ch.n ch.c], 32), (bk4, #[.bool dg.b, .slice dg.a dg.n dg.c], 30), (bk3, #[pg.v, sg.v, .bool cg.b, .slice cg.a cg.n cg.c], 32), (bk2, #[pd.v, sd.v, .bool cd.b, .slice cd.a cd.n cd.c], 45), (bk1, #[pf.v, sf.v, .bool cf.b, .slice cf.a cf.n cf.c], 32)] [q4.is, q3.is, Lr r (xl kl xl_) d2, Ls r (xl kl xl_) s2, dj.is, cj.is, Ls r (lq (a + b) (mir c R) (xl kx x)) sj, Mt r (fun _ => r) (lp (a + b) (mir c R)) pj, dh.is, ch.is, Ls r (lq b (lp a (mir c R)) (lq a (mir c R) (xl kx x))) sh, Mt r (fun _ => r) (lp b (lp a (mir c R))) ph, dg.is, cg.is, Ls (b + r) (lq a (mir c R) (xl kx x)) sg, Mt (b + r) (fun _ => b + r) (lp a (mir c R)) pg, cd.ir, Lr (a + (b + r)) (xl kx x) sd, Mr (a + (b + r)) (fun _ => a + (b + r)) (mir c R) pd, cf.is, Ls (a + (b + r)) (xl kx x) sf, Mt (a + (b + r)) (fun _ => a + (b + r)) (mir c R) pf, Mi m c R ra, Li kx x qa, Li kl xl_ la] := ⟨_, hZ50⟩
 clear hZ50
 have hVS14 : ∀ kq, kq ∈ ([veq (.agg #[pj.v, sj.v, .bool cj.b, .slice cj.a cj.n cj.c]), veq (s2.v), vnum (Vq r (lp (a + b) (mir c R)) (lq (a + b) (mir c R) (xl kx x)) (lc (a + b) (mir c R) (xl kx x) cc) (xl kl xl_)), veq (dg.v), vnum ((Vq r (lp (a + b) (mir c R)) (lq (a + b) (mir c R) (xl kx x)) (lc (a + b) (mir c R) (xl kx x) cc) (xl kl xl_)) * (M.dt a (mir c R))), veq (dh.v), vnum (((Vq r (lp (a + b) (mir c R)) (lq (a + b) (mir c R) (xl kx x)) (lc (a + b) (mir c R) (xl kx x) cc) (xl kl xl_)) * (M.dt a (mir c R))) * (M.dt b (lp a (mir c R)))), vany] : List VF) → VSt kq := by
  intro kq hkq
  simp only [List.mem_cons, List.not_mem_nil, or_false] at hkq
  rcases hkq with rfl | rfl | rfl | rfl | rfl | rfl | rfl | rfl
  ·
   exact (veq_se _).st
  ·
   exact (veq_se _).st
  ·
   exact (vnum_se _).st
  ·
   exact (veq_se _).st
  ·
   exact (vnum_se _).st
  ·
   exact (veq_se _).st
  ·
   exact (vnum_se _).st
  ·
   exact (vany_se).st
 have hVE14 : ∀ kq, kq ∈ ([veq (.agg #[pj.v, sj.v, .bool cj.b, .slice cj.a cj.n cj.c]), veq (s2.v), vnum (Vq r (lp (a + b) (mir c R)) (lq (a + b) (mir c R) (xl kx x)) (lc (a + b) (mir c R) (xl kx x) cc) (xl kl xl_)), veq (dg.v), vnum ((Vq r (lp (a + b) (mir c R)) (lq (a + b) (mir c R) (xl kx x)) (lc (a + b) (mir c R) (xl kx x) cc) (xl kl xl_)) * (M.dt a (mir c R))), veq (dh.v), vnum (((Vq r (lp (a + b) (mir c R)) (lq (a + b) (mir c R) (xl kx x)) (lc (a + b) (mir c R) (xl kx x) cc) (xl kl xl_)) * (M.dt a (mir c R))) * (M.dt b (lp a (mir c R)))), vany] : List VF) → VSe kq := by
  intro kq hkq
  simp only [List.mem_cons, List.not_mem_nil, or_false] at hkq
  rcases hkq with rfl | rfl | rfl | rfl | rfl | rfl | rfl | rfl
  ·
   exact veq_se _
  ·
   exact veq_se _
  ·
   exact vnum_se _
  ·
   exact veq_se _
  ·
   exact vnum_se _
  ·
   exact veq_se _
  ·
   exact vnum_se _
  ·
   exact vany_se
 refine wp_region_s 8 [some 122, some 123, some 124, some 125, some 126, some 127, some 128, some 29] [veq (.agg #[pj.v, sj.v, .bool cj.b, .slice cj.a cj.n cj.c]), veq (s2.v), vnum (Vq r (lp (a + b) (mir c R)) (lq (a + b) (mir c R) (xl kx x)) (lc (a + b) (mir c R) (xl kx x) cc) (xl kl xl_)), veq (dg.v), vnum ((Vq r (lp (a + b) (mir c R)) (lq (a + b) (mir c R) (xl kx x)) (lc (a + b) (mir c R) (xl kx x) cc) (xl kl xl_)) * (M.dt a (mir c R))), veq (dh.v), vnum (((Vq r (lp (a + b) (mir c R)) (lq (a + b) (mir c R) (xl kx x)) (lc (a + b) (mir c R) (xl kx x) cc) (xl kl xl_)) * (M.dt a (mir c R))) * (M.dt b (lp a (mir c R)))), vany] (RelA 7 XR14 [(bk9, #[.bool q4.b, .slice q4.a q4.n q4.c], 30), (bk8, #[.bool dj.b, .slice dj.a dj.n dj.c], 30), (bk7, #[pj.v, sj.v, .bool cj.b, .slice cj.a cj.n cj.c], 32), (bk6, #[.bool dh.b, .slice dh.a dh.n dh.c], 30), (bk5, #[ph.v, sh.v, .bool ch.b, .slice ch.a ch.n ch.c], 32), (bk4, #[.bool dg.b, .slice dg.a dg.n dg.c], 30), (bk3, #[pg.v, sg.v, .bool cg.b, .slice cg.a cg.n cg.c], 32), (bk2, #[pd.v, sd.v, .bool cd.b, .slice cd.a cd.n cd.c], 45), (bk1, #[pf.v, sf.v, .bool cf.b, .slice cf.a cf.n cf.c], 32)] 30 (fun C => C = #[.bool false, .slice none 0 0])) [q4.is, q3.is, Lr r (xl kl xl_) d2, Ls r (xl kl xl_) s2, dj.is, cj.is, Ls r (lq (a + b) (mir c R) (xl kx x)) sj, Mt r (fun _ => r) (lp (a + b) (mir c R)) pj, dh.is, ch.is, Ls r (lq b (lp a (mir c R)) (lq a (mir c R) (xl kx x))) sh, Mt r (fun _ => r) (lp b (lp a (mir c R))) ph, dg.is, cg.is, Ls (b + r) (lq a (mir c R) (xl kx x)) sg, Mt (b + r) (fun _ => b + r) (lp a (mir c R)) pg, cd.ir, Lr (a + (b + r)) (xl kx x) sd, Mr (a + (b + r)) (fun _ => a + (b + r)) (mir c R) pd, cf.is, Ls (a + (b + r)) (xl kx x) sf, Mt (a + (b + r)) (fun _ => a + (b + r)) (mir c R) pf, Mi m c R ra, Li kx x qa, Li kl xl_ la] (by kernel_rfl) (by kernel_rfl) (by rfl) (by decide) (by rfl) (fun u => ⟨XR14, [(bk9, #[.bool q4.b, .slice q4.a q4.n q4.c], 30), (bk8, #[.bool dj.b, .slice dj.a dj.n dj.c], 30), (bk7, #[pj.v, sj.v, .bool cj.b, .slice cj.a cj.n cj.c], 32), (bk6, #[.bool dh.b, .slice dh.a dh.n dh.c], 30), (bk5, #[ph.v, sh.v, .bool ch.b, .slice ch.a ch.n ch.c], 32), (bk4, #[.bool dg.b, .slice dg.a dg.n dg.c], 30), (bk3, #[pg.v, sg.v, .bool cg.b, .slice cg.a cg.n cg.c], 32), (bk2, #[pd.v, sd.v, .bool cd.b, .slice cd.a cd.n cd.c], 45), (bk1, #[pf.v, sf.v, .bool cf.b, .slice cf.a cf.n cf.c], 32)], RelA.start, hZ51.later (Below.refl _ _).drew⟩) ?_ ?_
 ·
  intro iq hlq hiq LL uu ww aa X1 l1 hLi hLc hR hJ hd hall hev hin hold
  clear hZ51
  obtain rfl | rfl | rfl | rfl | rfl | rfl | rfl | rfl : iq = 0 ∨ iq = 1 ∨ iq = 2 ∨ iq = 3 ∨ iq = 4 ∨ iq = 5 ∨ iq = 6 ∨ iq = 7 := by omega
  ·
   refine opS_z hJ (fun _ => hR.keep (by decide) _) ?_
   exact .inr ⟨rfl, fun K' hK => wp_load 32 (.tmp 23) rfl bk7 0 4 #[pj.v, sj.v, .bool cj.b, .slice cj.a cj.n cj.c] #[pj.v, sj.v, .bool cj.b, .slice cj.a cj.n cj.c] 32 (hJ.es.at' _ (hR.1 _ (zzG (i := 2) rfl))) (eval_tmp ((hev 23 (by decide)).trans rfl)) ag32 sz32 (zzF (by kernel_rfl)) (by kernel_rfl) (hK _ _ hJ rfl vzL_same)⟩
  ·
   refine opS_z hJ (fun _ => hR.keep (by decide) _) ?_
   exact .inr ⟨rfl, fun K' hK => wp_move (.tmp 26) rfl (eval_tmp ((hev 26 (by decide)).trans rfl)) (hK _ _ hJ rfl vzL_same)⟩
  ·
   refine opS_z hJ (fun _ => hR.keep (by decide) _) ?_
   refine .inr ⟨rfl, fun K' hK => ?_⟩
   refine wp_callz (.func 16) #[.tmp 122, .tmp 123] #[32, 27] 16 #[] #[.agg #[pj.v, sj.v, .bool cj.b, .slice cj.a cj.n cj.c], s2.v] _ rfl rfl (map2 (eval_tmp ((hin 0 122 rfl).trans (congrArg some (show uu 0 = .agg #[pj.v, sj.v, .bool cj.b, .slice cj.a cj.n cj.c] from (hd 0 (by decide) (by kernel_rfl)).2)))) (eval_tmp ((hin 1 123 rfl).trans (congrArg some (show uu 1 = s2.v from (hd 1 (by decide) (by kernel_rfl)).2))))) rfl (fun _ _ => rfl) (uValue hJ.nx pj sj cj (e := ((lpb 2 (a + b)) + 2)) s2 (hJ.get 7 (f := Mt r (fun _ => r) (lp (a + b) (mir c R)) pj) rfl) (hJ.get 6 (f := Ls r (lq (a + b) (mir c R) (xl kx x)) sj) rfl) (hJ.get 5 (f := cj.is) rfl) ez_cj (hJ.get 3 (f := Ls r (xl kl xl_) s2) rfl) (fun (i j : Nat) hi hj => (BPj i j hi hj).mono (by omega)) (fun (i : Nat) hi => (BQj i hi).mono (by omega)) (BCj.mono (by omega)) (fun (i : Nat) hi => ((fun (i : Nat) _ => BXm i) i hi).mono (by omega)) (by omega) (by omega)) ?_
   rintro zz ww2 ⟨q5, rfl, ez_q5, hi_q5, hB⟩
   exact ⟨_, rfl, hK _ _ (hJ.later hB) ⟨q5, rfl, ez_q5, hi_q5⟩ (vzL_later hVS14 hB)⟩
  ·
   refine opS_z hJ (fun _ => hR.keep (by decide) _) ?_
   exact .inr ⟨rfl, fun K' hK => wp_load 30 (.tmp 18) rfl bk4 0 2 #[.bool dg.b, .slice dg.a dg.n dg.c] #[.bool dg.b, .slice dg.a dg.n dg.c] 30 (hJ.es.at' _ (hR.1 _ (zzG (i := 5) rfl))) (eval_tmp ((hev 18 (by decide)).trans rfl)) ag30 sz30 (zzF (by kernel_rfl)) (by kernel_rfl) (hK _ _ hJ rfl vzL_same)⟩
  ·
   refine opS_z hJ (fun _ => hR.keep (by decide) _) ?_
   obtain ⟨q5, e2, ez_q5, hi_q5⟩ := (show (vnum (Vq r (lp (a + b) (mir c R)) (lq (a + b) (mir c R) (xl kx x)) (lc (a + b) (mir c R) (xl kx x) cc) (xl kl xl_))) (uu 2) X1 ww from (hd 2 (by decide) (by kernel_rfl)).2)
   replace hJ := hJ.more (f := q5.is) q5.stb hi_q5
   refine .inr ⟨rfl, fun K' hK => ?_⟩
   refine wp_callz (.func 32) #[.tmp 124, .tmp 125] #[30, 30] 32 #[] #[q5.v, dg.v] _ rfl rfl (map2 (eval_tmp ((hin 2 124 rfl).trans (congrArg some e2))) (eval_tmp ((hin 3 125 rfl).trans (congrArg some (show uu 3 = dg.v from (hd 3 (by decide) (by kernel_rfl)).2))))) rfl (fun _ _ => rfl) (zMul hJ.nx (hJ.get 0 (f := q5.is) rfl) (hJ.get 13 (f := dg.is) rfl) ez_q5 ez_dg (vq_sz (e := ((lpb 2 (a + b)) + 2)) (fun (i j : Nat) hi hj => (BPj i j hi hj).mono (by omega)) (fun (i : Nat) hi => (BQj i hi).mono (by omega)) (BCj.mono (by omega)) (fun (i : Nat) hi => ((fun (i : Nat) _ => BXm i) i hi).mono (by omega))) (dt_sz (fun (i j : Nat) hi hj => BPm i j (by omega) (by omega))) (by omega) (by omega)) ?_
   rintro zz ww2 ⟨q6, rfl, ez_q6, hi_q6, hB⟩
   exact ⟨_, rfl, hK _ _ ((hJ.only [q4.is, q3.is, Lr r (xl kl xl_) d2, Ls r (xl kl xl_) s2, dj.is, cj.is, Ls r (lq (a + b) (mir c R) (xl kx x)) sj, Mt r (fun _ => r) (lp (a + b) (mir c R)) pj, dh.is, ch.is, Ls r (lq b (lp a (mir c R)) (lq a (mir c R) (xl kx x))) sh, Mt r (fun _ => r) (lp b (lp a (mir c R))) ph, dg.is, cg.is, Ls (b + r) (lq a (mir c R) (xl kx x)) sg, Mt (b + r) (fun _ => b + r) (lp a (mir c R)) pg, cd.ir, Lr (a + (b + r)) (xl kx x) sd, Mr (a + (b + r)) (fun _ => a + (b + r)) (mir c R) pd, cf.is, Ls (a + (b + r)) (xl kx x) sf, Mt (a + (b + r)) (fun _ => a + (b + r)) (mir c R) pf, Mi m c R ra, Li kx x qa, Li kl xl_ la] (by simp)).later hB) ⟨q6, rfl, ez_q6, hi_q6⟩ (vzL_later hVS14 hB)⟩
  ·
   refine opS_z hJ (fun _ => hR.keep (by decide) _) ?_
   exact .inr ⟨rfl, fun K' hK => wp_load 30 (.tmp 21) rfl bk6 0 2 #[.bool dh.b, .slice dh.a dh.n dh.c] #[.bool dh.b, .slice dh.a dh.n dh.c] 30 (hJ.es.at' _ (hR.1 _ (zzG (i := 3) rfl))) (eval_tmp ((hev 21 (by decide)).trans rfl)) ag30 sz30 (zzF (by kernel_rfl)) (by kernel_rfl) (hK _ _ hJ rfl vzL_same)⟩
  ·
   refine opS_z hJ (fun _ => hR.keep (by decide) _) ?_
   obtain ⟨q6, e4, ez_q6, hi_q6⟩ := (show (vnum ((Vq r (lp (a + b) (mir c R)) (lq (a + b) (mir c R) (xl kx x)) (lc (a + b) (mir c R) (xl kx x) cc) (xl kl xl_)) * (M.dt a (mir c R)))) (uu 4) X1 ww from (hd 4 (by decide) (by kernel_rfl)).2)
   replace hJ := hJ.more (f := q6.is) q6.stb hi_q6
   refine .inr ⟨rfl, fun K' hK => ?_⟩
   refine wp_callz (.func 32) #[.tmp 126, .tmp 127] #[30, 30] 32 #[] #[q6.v, dh.v] _ rfl rfl (map2 (eval_tmp ((hin 4 126 rfl).trans (congrArg some e4))) (eval_tmp ((hin 5 127 rfl).trans (congrArg some (show uu 5 = dh.v from (hd 5 (by decide) (by kernel_rfl)).2))))) rfl (fun _ _ => rfl) (zMul hJ.nx (hJ.get 0 (f := q6.is) rfl) (hJ.get 9 (f := dh.is) rfl) ez_q6 ez_dh (Sz.mul (vq_sz (e := ((lpb 2 (a + b)) + 2)) (fun (i j : Nat) hi hj => (BPj i j hi hj).mono (by omega)) (fun (i : Nat) hi => (BQj i hi).mono (by omega)) (BCj.mono (by omega)) (fun (i : Nat) hi => ((fun (i : Nat) _ => BXm i) i hi).mono (by omega))) (dt_sz (fun (i j : Nat) hi hj => BPm i j (by omega) (by omega)))) (dt_sz (fun (i j : Nat) hi hj => BPg i j (by omega) (by omega))) (by omega) (by omega)) ?_
   rintro zz ww2 ⟨q7, rfl, ez_q7, hi_q7, hB⟩
   exact ⟨_, rfl, hK _ _ ((hJ.only [q4.is, q3.is, Lr r (xl kl xl_) d2, Ls r (xl kl xl_) s2, dj.is, cj.is, Ls r (lq (a + b) (mir c R) (xl kx x)) sj, Mt r (fun _ => r) (lp (a + b) (mir c R)) pj, dh.is, ch.is, Ls r (lq b (lp a (mir c R)) (lq a (mir c R) (xl kx x))) sh, Mt r (fun _ => r) (lp b (lp a (mir c R))) ph, dg.is, cg.is, Ls (b + r) (lq a (mir c R) (xl kx x)) sg, Mt (b + r) (fun _ => b + r) (lp a (mir c R)) pg, cd.ir, Lr (a + (b + r)) (xl kx x) sd, Mr (a + (b + r)) (fun _ => a + (b + r)) (mir c R) pd, cf.is, Ls (a + (b + r)) (xl kx x) sf, Mt (a + (b + r)) (fun _ => a + (b + r)) (mir c R) pf, Mi m c R ra, Li kx x qa, Li kl xl_ la] (by simp)).later hB) ⟨q7, rfl, ez_q7, hi_q7⟩ (vzL_later hVS14 hB)⟩
  ·
   obtain ⟨eX, el⟩ := hR.no hLi
   subst el
   subst eX
   exact .inr ⟨rfl, fun K' hK => wp_alloc 30 rfl (.agg #[.bool false, .slice none 0 0]) zv30 (hK _ _ _ _ (RelA.made rfl rfl) (hJ.new #[.bool false, .slice none 0 0] 30) trivial (vzL_e hVE14 (ext_new _ _ _ _)))⟩
 clear hZ51
 intro LL uu W25 X1 l1 hLL hR hZ52 hd
 obtain ⟨bk10, CA, eA, hsA, el⟩ := hR.yes (hLL 7 (by decide))
 subst el
 subst hsA
 have e_0 : uu 0 = .agg #[pj.v, sj.v, .bool cj.b, .slice cj.a cj.n cj.c] := hd 0 (by decide)
 have e_1 : uu 1 = s2.v := hd 1 (by decide)
 obtain ⟨q5, e_2, ez_q5, hi_q5⟩ := (show (vnum (Vq r (lp (a + b) (mir c R)) (lq (a + b) (mir c R) (xl kx x)) (lc (a + b) (mir c R) (xl kx x) cc) (xl kl xl_))) (uu 2) X1 W25 from hd 2 (by decide))
 have e_3 : uu 3 = dg.v := hd 3 (by decide)
 obtain ⟨q6, e_4, ez_q6, hi_q6⟩ := (show (vnum ((Vq r (lp (a + b) (mir c R)) (lq (a + b) (mir c R) (xl kx x)) (lc (a + b) (mir c R) (xl kx x) cc) (xl kl xl_)) * (M.dt a (mir c R)))) (uu 4) X1 W25 from hd 4 (by decide))
 have e_5 : uu 5 = dh.v := hd 5 (by decide)
 obtain ⟨q7, e_6, ez_q7, hi_q7⟩ := (show (vnum (((Vq r (lp (a + b) (mir c R)) (lq (a + b) (mir c R) (xl kx x)) (lc (a + b) (mir c R) (xl kx x) cc) (xl kl xl_)) * (M.dt a (mir c R))) * (M.dt b (lp a (mir c R))))) (uu 6) X1 W25 from hd 6 (by decide))
 have e_7 : uu 7 = .pointer (some ⟨bk10, 0, none⟩) := eA
 clear hd hVS14 hVE14
 simp only [layS, Act.put, zzC, zzD, zzE, Nat.zero_add, Nat.reduceAdd, List.drop_succ_cons, List.drop_zero, List.drop_nil, e_0, e_1, e_2, e_3, e_4, e_5, e_6, e_7]
 clear e_0 e_1 e_2 e_3 e_4 e_5 e_6 e_7
 have hZ53 := hZ52.more (f := q5.is) q5.stb hi_q5
 clear hZ52
 clear hi_q5
 have hZ54 := hZ53.more (f := q6.is) q6.stb hi_q6
 clear hZ53
 clear hi_q6
 have hZ55 := hZ54.more (f := q7.is) q7.stb hi_q7
 clear hZ54
 clear hi_q7
 go_wp2_with (refine stopz_store 30 (.tmp 29) (.tmp 128) 0 bk10 0 #[.bool false, .slice none 0 0] 30 2 [.bool q7.b, .slice q7.a q7.n q7.c] #[.bool q7.b, .slice q7.a q7.n q7.c] [(bk10, #[.bool q7.b, .slice q7.a q7.n q7.c], 30), (bk9, #[.bool q4.b, .slice q4.a q4.n q4.c], 30), (bk8, #[.bool dj.b, .slice dj.a dj.n dj.c], 30), (bk7, #[pj.v, sj.v, .bool cj.b, .slice cj.a cj.n cj.c], 32), (bk6, #[.bool dh.b, .slice dh.a dh.n dh.c], 30), (bk5, #[ph.v, sh.v, .bool ch.b, .slice ch.a ch.n ch.c], 32), (bk4, #[.bool dg.b, .slice dg.a dg.n dg.c], 30), (bk3, #[pg.v, sg.v, .bool cg.b, .slice cg.a cg.n cg.c], 32), (bk2, #[pd.v, sd.v, .bool cd.b, .slice cd.a cd.n cd.c], 45), (bk1, #[pf.v, sf.v, .bool cf.b, .slice cf.a cf.n cf.c], 32)] rfl rfl rfl rfl sz30 hZ55 rfl rfl (zzF (by kernel_rfl)) (by kernel_rfl) (by kernel_rfl) (by kernel_rfl) (fun W26 hZ56 => ?_))
 clear hZ55
 unfold Stop
 try simp only [Act.put, zzC, zzD, zzE]
 go_wp2_with (refine stop_op rfl (fun K hK => wp_load 30 (.tmp 28) rfl bk9 0 2 #[.bool q4.b, .slice q4.a q4.n q4.c] #[.bool q4.b, .slice q4.a q4.n q4.c] 30 (hZ56.es.at' _ (zzG (i := 1) rfl)) rfl ag30 sz30 (zzF (by kernel_rfl)) (by kernel_rfl) (hK _ _ ?_)))
 unfold Stop
 try simp only [Act.put, zzC, zzD, zzE]
 go_wp2_with (refine stop_op rfl (fun K hK => wp_load 30 (.tmp 29) rfl bk10 0 2 #[.bool q7.b, .slice q7.a q7.n q7.c] #[.bool q7.b, .slice q7.a q7.n q7.c] 30 (hZ56.es.at' _ (zzG (i := 0) rfl)) rfl ag30 sz30 (zzF (by kernel_rfl)) (by kernel_rfl) (hK _ _ ?_)))
 unfold Stop
 try simp only [Act.put, zzC, zzD, zzE]
 go_wp2_with fail
 refine (zCmp (hZ56.get 3 (f := q4.is) rfl) (hZ56.get 0 (f := q7.is) rfl) ez_q4 ez_q7).mono ?_
 rintro zz W27 ⟨rfl, hB⟩
 have hZ57 := hZ56.later hB
 clear hB
 clear hZ56
 have hZ58 := hZ57.only [] (by simp)
 clear hZ57
 go_wp2_with (refine stop_opw (by kernel_rfl) (fun K hK => wp_eqli (.tmp 134) (.const (.int .i64 0)) 3 3 rfl rfl rfl rfl (r := true) (ceq_t (twice_val (e := 2) (by omega) BP2 (fun i j _ _ => mir_sym c R i j) HA.out HB.out HAB.out (xl kl xl_))) (hK _ _ ?_)))
 unfold Stop
 try simp only [Act.put, zzC, zzD, zzE]
 go_wp2
 go_ret
 exact ⟨rfl, hZ58.below⟩
end Go.Proofs.YtjclllindbfmhaaGreatDoor

/- The law QuadTwice of layer 8, walked. No statement of the seat is proved here. -/
namespace Go.Proofs.YtjclllindbfmhaaGreatDoor
open Go Go.RowKit
open Classical in
theorem ultAny {X0 : Nat → Prop} {w : World} (hX : NX X0 w) (ra qa la : Sl) (m kx kl : Nat) (c : Nat → Nat) (R : Nat → Nat → Int) (x : Nat → Int) (cc : Int) (xl_ : Nat → Int) (hra : Mi m c R ra X0 w) (hqa : Li kx x qa X0 w) (hla : Li kl xl_ la X0 w) (rgR0 : ∀ i j, i < m → j < c i → -9223372036854775808 ≤ R i j ∧ R i j ≤ 9223372036854775807) (rgx0 : ∀ i, i < kx → -9223372036854775808 ≤ x i ∧ x i ≤ 9223372036854775807) (hcc : -9223372036854775808 ≤ cc ∧ cc ≤ 9223372036854775807) (rgl0 : ∀ i, i < kl → -9223372036854775808 ≤ xl_ i ∧ xl_ i ≤ 9223372036854775807) (mm nn : Int) : Calls Tryz.prog 8 #[ra.v, qa.v, .int .i64 cc, la.v, .int .i64 mm, .int .i64 nn] w (PVal (.bool true) w) := by
 obtain ⟨n, hnm, hmin, hnu⟩ : ∃ n : Nat, n ≤ m ∧ ((((m : Nat) : Int) ≤ ((6 : Nat) : Int) ∧ ((n : Nat) : Int) = ((m : Nat) : Int)) ∨ (((6 : Nat) : Int) < ((m : Nat) : Int) ∧ ((n : Nat) : Int) = ((6 : Nat) : Int))) ∧ n ≤ 6 := by
  by_cases h : m ≤ 6
  ·
   exact ⟨m, Nat.le_refl _, .inl ⟨by omega, rfl⟩, h⟩
  ·
   exact ⟨6, by omega, .inr ⟨by omega, rfl⟩, Nat.le_refl _⟩
 by_cases h1 : mm < 0
 ·
  exact ult1 hX ra qa la m kx kl c R x cc xl_ hra hqa hla rgR0 rgx0 hcc rgl0 n mm nn hnm hmin hnu h1
 ·
  by_cases h2 : nn < 0
  ·
   exact ult2 hX ra qa la m kx kl c R x cc xl_ hra hqa hla rgR0 rgx0 hcc rgl0 n mm nn hnm hmin hnu (by omega) h2
  ·
   by_cases h3 : (n : Int) < mm
   ·
    exact ult3 hX ra qa la m kx kl c R x cc xl_ hra hqa hla rgR0 rgx0 hcc rgl0 n mm nn hnm hmin hnu (by omega) (by omega) h3
   ·
    by_cases h4 : (n : Int) - mm < nn
    ·
     exact ult4 hX ra qa la m kx kl c R x cc xl_ hra hqa hla rgR0 rgx0 hcc rgl0 n mm nn hnm hmin hnu (by omega) (by omega) (by omega) h4
    ·
     obtain ⟨a, rfl⟩ : ∃ a : Nat, mm = ((a : Nat) : Int) := ⟨mm.toNat, by omega⟩
     obtain ⟨b, rfl⟩ : ∃ b : Nat, nn = ((b : Nat) : Int) := ⟨nn.toNat, by omega⟩
     obtain ⟨r, rfl⟩ : ∃ r, n = a + (b + r) := ⟨n - a - b, by omega⟩
     by_cases ha : (Sym a (mir c R) ∧ ∀ i, i < a → 0 < M.dt (i + 1) (mir c R))
     ·
      by_cases hab : (Sym (a + b) (mir c R) ∧ ∀ i, i < a + b → 0 < M.dt (i + 1) (mir c R))
      ·
       exact ult7 hX ra qa la m kx kl c R x cc xl_ hra hqa hla rgR0 rgx0 hcc rgl0 a b r hnm hmin hnu ha hab
      ·
       exact ult6 hX ra qa la m kx kl c R x cc xl_ hra hqa hla rgR0 rgx0 hcc rgl0 a b r hnm hmin hnu ha hab
     ·
      exact ult5 hX ra qa la m kx kl c R x cc xl_ hra hqa hla rgR0 rgx0 hcc rgl0 a b r hnm hmin hnu ha
end Go.Proofs.YtjclllindbfmhaaGreatDoor
