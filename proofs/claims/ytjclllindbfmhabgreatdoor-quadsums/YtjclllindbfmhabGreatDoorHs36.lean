/- Parts of the proof. -/
import Derived.Test.YtjclllindbfmhabGreatDoorHs0
import Derived.Test.YtjclllindbfmhabGreatDoorHs34
import Derived.Test.YtjclllindbfmhabGreatDoorHs35
import Derived.Test.YtjclllindbfmhabGreatDoorHs33
import Derived.Test.YtjclllindbfmhabGreatDoorHs32
set_option linter.unusedSimpArgs false
set_option linter.unusedVariables false
namespace Go.Proofs.YtjclllindbfmhabGreatDoor
/- The laws' awake of layer 8. No statement of the seat is proved here. -/
open Go Go.RowKit
open Classical in
set_option maxRecDepth 100000 in
set_option maxHeartbeats 12800000 in
theorem uAwake {X0:Nat→Prop} {w:World} (hX:NX X0 w):Calls Tryz.prog 4 #[] w (PVal (.bool true) w):=by
 have hZ0:=zs_start hX
 go_enter Tryz.func4,Tryz.ntmps4
 go_wp2_with (refine stopz_bi2 ei23 (.const (.int .i64 2)) (.const (.int .i64 1)) rfl rfl rfl rfl hZ0 (fun s1 W1 hZ1=>?_))
 clear hZ0
 simp only [Stop,Act.put,zzC,zzD,zzE]
 go_wp2_with (refine stopz_bi2 ei23 (.const (.int .i64 1)) (.const (.int .i64 3)) rfl rfl rfl rfl hZ1 (fun s2 W2 hZ2=>?_))
 clear hZ1
 simp only [Stop,Act.put,zzC,zzD,zzE]
 go_wp2_with (refine stopz_bm2 ei22 (.tmp 26) (.tmp 27) rfl rfl rfl rfl hZ2 (hZ2.get 1 (f:=Li 2 (l2 2 1) s1) rfl) (hZ2.get 0 (f:=Li 2 (l2 1 3) s2) rfl) (fun s3 W3 hZ3=>?_))
 clear hZ2
 simp only [Stop,Act.put,zzC,zzD,zzE]
 go_wp2_with (refine stopz_bi2 ei23 (.const (.int .i64 1)) (.const (.int .i64 2)) rfl rfl rfl rfl hZ3 (fun s4 W4 hZ4=>?_))
 clear hZ3
 simp only [Stop,Act.put,zzC,zzD,zzE]
 go_wp2_with fail
 refine (uOfY hZ4.nx s3 s4 (R:=eP) (x:=eq_) (hZ4.get 1 (f:=Mi 2 (fun _=>2) (m2 (l2 2 1) (l2 1 3)) s3) rfl) (hZ4.get 0 (f:=Li 2 (l2 1 2) s4) rfl) (fun i j _ _=>eP_in i j) ⟨by omega,fun _ _=>rfl⟩ e_sym (fun i _=>eq_in i) (by omega)).mono ?_
 rintro zz W5 ⟨pf,sf,cf,rfl,hi_pf,hi_sf,ez_cf,hi_cf,hB⟩
 have hZ5:=hZ4.later hB
 clear hB hZ4
 have hZ6:=hZ5.more (f:=Mt 2 (fun _=>2) eP pf) (Mt.stb _ _ _ _) hi_pf
 clear hZ5 hi_pf
 have hZ7:=hZ6.more (f:=Ls 2 eq_ sf) (Ls.stb _ _ _) hi_sf
 clear hZ6 hi_sf
 have hZ8:=hZ7.more (f:=cf.is) cf.stb hi_cf
 clear hZ7 hi_cf
 go_wp2_with (refine zsa 32 #[.slice none 0 0,.slice none 0 0,.bool false,.slice none 0 0] (.agg #[.slice none 0 0,.slice none 0 0,.bool false,.slice none 0 0]) rfl rfl zv32 rfl hZ8 (fun bk1 X9 W6 hZ9=>?_))
 clear hZ8
 simp only [Stop,Act.put,zzC,zzD,zzE]
 go_wp2_with (refine zss 32 (.tmp 1) (.tmp 31) 0 bk1 0 #[.slice none 0 0,.slice none 0 0,.bool false,.slice none 0 0] 32 4 [pf.v,sf.v,.bool cf.b,.slice cf.a cf.n cf.c] #[pf.v,sf.v,.bool cf.b,.slice cf.a cf.n cf.c] [(bk1,#[pf.v,sf.v,.bool cf.b,.slice cf.a cf.n cf.c],32)] rfl rfl rfl rfl sz32 hZ9 rfl rfl (zzF (by kernel_rfl)) (by kernel_rfl) (by kernel_rfl) (by kernel_rfl) (fun W7 hZ10=>?_))
 clear hZ9
 simp only [Stop,Act.put,zzC,zzD,zzE]
 go_wp2_with (refine zsw (by kernel_rfl) (fun K hK=>wp_fda (v:=.pointer (some ⟨bk1,0,none⟩)) 32 (.tmp 1) 0 rfl rfl (fun _=>by kernel_rfl) (hK _ _ ?_)))
 simp only [Stop,Act.put,zzC,zzD,zzE]
 go_wp2_with (refine zsw (by kernel_rfl) (fun K hK=>wp_load1 (v:=pf.v) 26 (.tmp 36) rfl bk1 0 #[pf.v,sf.v,.bool cf.b,.slice cf.a cf.n cf.c] 32 (hZ10.es.at' _ (zzG (i:=0) rfl)) rfl ag26 (by kernel_rfl) (hK _ _ ?_)))
 simp only [Stop,Act.put,zzC,zzD,zzE]
 go_wp2_with (refine zsw (by kernel_rfl) (fun K hK=>wp_lenq (.tmp 37) 26 27 pf rfl (by kernel_rfl) rfl (hZ10.get 2 (f:=Mt 2 (fun _=>2) eP pf) rfl).n (hK _ _ ?_)))
 simp only [Stop,Act.put,zzC,zzD,zzE]
 go_wp2_with (refine zsw (by kernel_rfl) (fun K hK=>wp_neqi (.tmp 38) (.const (.int .i64 2)) 3 3 rfl rfl rfl rfl (r:=false) (decide_eq_false (by decide)) (hK _ _ ?_)))
 simp only [Stop,Act.put,zzC,zzD,zzE]
 go_wp2_with (refine zsw (by kernel_rfl) (fun K hK=>wp_fda (v:=.pointer (some ⟨bk1,1,none⟩)) 32 (.tmp 1) 1 rfl rfl (fun _=>by kernel_rfl) (hK _ _ ?_)))
 simp only [Stop,Act.put,zzC,zzD,zzE]
 go_wp2_with (refine zsw (by kernel_rfl) (fun K hK=>wp_load1 (v:=sf.v) 27 (.tmp 42) rfl bk1 1 #[pf.v,sf.v,.bool cf.b,.slice cf.a cf.n cf.c] 32 (hZ10.es.at' _ (zzG (i:=0) rfl)) rfl ag27 (by kernel_rfl) (hK _ _ ?_)))
 simp only [Stop,Act.put,zzC,zzD,zzE]
 go_wp2_with (refine zsw (by kernel_rfl) (fun K hK=>wp_lenq (.tmp 43) 27 30 sf rfl (by kernel_rfl) rfl (hZ10.get 1 (f:=Ls 2 eq_ sf) rfl).n (hK _ _ ?_)))
 simp only [Stop,Act.put,zzC,zzD,zzE]
 go_wp2_with (refine zsw (by kernel_rfl) (fun K hK=>wp_neqi (.tmp 44) (.const (.int .i64 2)) 3 3 rfl rfl rfl rfl (r:=false) (decide_eq_false (by decide)) (hK _ _ ?_)))
 simp only [Stop,Act.put,zzC,zzD,zzE]
 go_wp2_with (refine stopz_bi2 ei23 (.const (.int .i64 1)) (.const (.int .i64 1)) rfl rfl rfl rfl hZ10 (fun s5 W8 hZ11=>?_))
 clear hZ10
 simp only [Stop,Act.put,zzC,zzD,zzE]
 go_wp2_with fail
 refine (uList hZ11.nx s5 2 (hZ11.get 0 (f:=Li 2 (l2 1 1) s5) rfl) (by omega) (fun i _=>l2_in (by decide) (by decide) i)).mono ?_
 rintro zz W9 ⟨s7,d7,rfl,hi_s7,hi_d7,hB⟩
 have hZ12:=hZ11.later hB
 clear hB hZ11
 have hZ13:=hZ12.more (f:=Ls 2 (xl 2 (l2 1 1)) s7) (Ls.stb _ _ _) hi_s7
 clear hZ12 hi_s7
 go_wp2_with fail
 refine (uList hZ13.nx slz 2 (li_nil (fun _=>0) _ _) (by omega) (fun i hi=>absurd hi (Nat.not_lt_zero i))).mono ?_
 rintro zz W10 ⟨s9,d9,rfl,hi_s9,hi_d9,hB⟩
 have hZ14:=hZ13.later hB
 clear hB hZ13
 have hZ15:=hZ14.more (f:=Ls 2 (xl 0 (fun _=>0)) s9) (Ls.stb _ _ _) hi_s9
 clear hZ14 hi_s9
 go_wp2_with (refine zso rfl (fun K hK=>wp_bi1 ei23 (.const (.int .i64 1)) rfl rfl hZ15 (fun s10 W11 hZ16=>hK _ _ ?_)))
 simp only [Stop,Act.put,zzC,zzD,zzE]
 clear hZ15
 go_wp2_with fail
 refine (uList hZ16.nx s10 1 (hZ16.get 0 (f:=Li 1 (l1 1) s10) rfl) (by omega) l1_in).mono ?_
 rintro zz W12 ⟨s12,d12,rfl,hi_s12,hi_d12,hB⟩
 have hZ17:=hZ16.later hB
 clear hB hZ16
 have hZ18:=hZ17.more (f:=Ls 1 (xl 1 (l1 1)) s12) (Ls.stb _ _ _) hi_s12
 clear hZ17 hi_s12
 go_wp2_with (refine zso rfl (fun K hK=>wp_load 32 (.tmp 1) rfl bk1 0 4 #[pf.v,sf.v,.bool cf.b,.slice cf.a cf.n cf.c] #[pf.v,sf.v,.bool cf.b,.slice cf.a cf.n cf.c] 32 (hZ18.es.at' _ (zzG (i:=0) rfl)) rfl ag32 sz32 (zzF (by kernel_rfl)) (by kernel_rfl) (hK _ _ ?_)))
 simp only [Stop,Act.put,zzC,zzD,zzE]
 go_wp2_with fail
 refine (uValue hZ18.nx pf sf cf (e:=2) s7 (hZ18.get 7 (f:=Mt 2 (fun _=>2) eP pf) rfl) (hZ18.get 6 (f:=Ls 2 eq_ sf) rfl) (hZ18.get 5 (f:=cf.is) rfl) ez_cf (hZ18.get 3 (f:=Ls 2 (xl 2 (l2 1 1)) s7) rfl) (fun i j _ _=>eP_sz i j) (fun i _=>eq_sz i) e_4 (fun i _=>xl_in (fun i _=>l2_in (by decide) (by decide) i) i) (by omega) (by omega)).mono ?_
 rintro zz W13 ⟨q13,rfl,ez_q13,hi_q13,hB⟩
 have hZ19:=hZ18.later hB
 clear hB hZ18
 have hZ20:=hZ19.more (f:=q13.is) q13.stb hi_q13
 clear hZ19 hi_q13
 go_wp2_with fail
 refine ((zStr (hZ20.get 0 (f:=q13.is) rfl) ez_q13 (vq_sz (fun i j _ _=>eP_sz i j) (fun i _=>eq_sz i) e_4 (fun i _=>xl_in (fun i _=>l2_in (by decide) (by decide) i) i)) (by first | omega | exact Nat.le_trans (dtb_le (by omega) (by omega)) (by omega))).mono (fun _ _ h=>ptxt_dec h)).mono ?_
 rintro zz W14 ⟨rfl,hB⟩
 have hZ21:=hZ20.later hB
 clear hB hZ20
 go_wp2_with (refine zso rfl (fun K hK=>wp_load 32 (.tmp 1) rfl bk1 0 4 #[pf.v,sf.v,.bool cf.b,.slice cf.a cf.n cf.c] #[pf.v,sf.v,.bool cf.b,.slice cf.a cf.n cf.c] 32 (hZ21.es.at' _ (zzG (i:=0) rfl)) rfl ag32 sz32 (zzF (by kernel_rfl)) (by kernel_rfl) (hK _ _ ?_)))
 simp only [Stop,Act.put,zzC,zzD,zzE]
 go_wp2_with fail
 refine (uSlope hZ21.nx pf sf cf (e:=2) s9 (hZ21.get 8 (f:=Mt 2 (fun _=>2) eP pf) rfl) (hZ21.get 7 (f:=Ls 2 eq_ sf) rfl) (hZ21.get 6 (f:=cf.is) rfl) ez_cf (hZ21.get 3 (f:=Ls 2 (xl 0 (fun _=>0)) s9) rfl) (fun i j _ _=>eP_sz i j) (fun i _=>eq_sz i) e_4 (fun i _=>xl_in (fun i hi=>absurd hi (Nat.not_lt_zero i)) i) (by omega) (by omega)).mono ?_
 rintro zz W15 ⟨sl,rfl,hi_sl,hB⟩
 have hZ22:=hZ21.later hB
 clear hB hZ21
 have hZ23:=hZ22.more (f:=Ls 2 (fun i=>M.mulv 2 eP (xl 0 (fun _=>0)) i - eq_ i) sl) (Ls.stb _ _ _) hi_sl
 clear hZ22 hi_sl
 go_wp2_with (refine zso rfl (fun K hK=>wp_load 32 (.tmp 1) rfl bk1 0 4 #[pf.v,sf.v,.bool cf.b,.slice cf.a cf.n cf.c] #[pf.v,sf.v,.bool cf.b,.slice cf.a cf.n cf.c] 32 (hZ23.es.at' _ (zzG (i:=0) rfl)) rfl ag32 sz32 (zzF (by kernel_rfl)) (by kernel_rfl) (hK _ _ ?_)))
 simp only [Stop,Act.put,zzC,zzD,zzE]
 go_wp2_with fail
 refine (uLeastY hZ23.nx pf sf cf (e:=2) (hZ23.get 9 (f:=Mt 2 (fun _=>2) eP pf) rfl) (hZ23.get 8 (f:=Ls 2 eq_ sf) rfl) (hZ23.get 7 (f:=cf.is) rfl) ez_cf (fun i j _ _=>eP_sz i j) (fun i _=>eq_sz i) e_4 (by omega) (by omega) (by omega) a_def (by rw [a_det]; decide)).mono ?_
 rintro zz W16 ⟨sn,dn,tn,rfl,hi_sn,ez_dn,hi_dn,ez_tn,hi_tn,hB⟩
 have hZ24:=hZ23.later hB
 clear hB hZ23
 have hZ25:=hZ24.more (f:=Ls 2 (crx 2 eP eq_) sn) (Ls.stb _ _ _) hi_sn
 clear hZ24 hi_sn
 have hZ26:=hZ25.more (f:=dn.is) dn.stb hi_dn
 clear hZ25 hi_dn
 have hZ27:=hZ26.more (f:=tn.is) tn.stb hi_tn
 clear hZ26 hi_tn
 go_wp2_with (refine zsa 30 #[.bool false,.slice none 0 0] (.agg #[.bool false,.slice none 0 0]) rfl rfl zv30 rfl hZ27 (fun bk2 X28 W17 hZ28=>?_))
 clear hZ27
 simp only [Stop,Act.put,zzC,zzD,zzE]
 go_wp2_with (refine zsa 30 #[.bool false,.slice none 0 0] (.agg #[.bool false,.slice none 0 0]) rfl rfl zv30 rfl hZ28 (fun bk3 X29 W18 hZ29=>?_))
 clear hZ28
 simp only [Stop,Act.put,zzC,zzD,zzE]
 go_wp2_with (refine zss 30 (.tmp 12) (.tmp 72) 1 bk2 0 #[.bool false,.slice none 0 0] 30 2 [.bool dn.b,.slice dn.a dn.n dn.c] #[.bool dn.b,.slice dn.a dn.n dn.c] [(bk3,#[.bool false,.slice none 0 0],30),(bk2,#[.bool dn.b,.slice dn.a dn.n dn.c],30),(bk1,#[pf.v,sf.v,.bool cf.b,.slice cf.a cf.n cf.c],32)] rfl rfl rfl rfl sz30 hZ29 rfl rfl (zzF (by kernel_rfl)) (by kernel_rfl) (by kernel_rfl) (by kernel_rfl) (fun W19 hZ30=>?_))
 clear hZ29
 simp only [Stop,Act.put,zzC,zzD,zzE]
 go_wp2_with (refine zss 30 (.tmp 13) (.tmp 73) 0 bk3 0 #[.bool false,.slice none 0 0] 30 2 [.bool tn.b,.slice tn.a tn.n tn.c] #[.bool tn.b,.slice tn.a tn.n tn.c] [(bk3,#[.bool tn.b,.slice tn.a tn.n tn.c],30),(bk2,#[.bool dn.b,.slice dn.a dn.n dn.c],30),(bk1,#[pf.v,sf.v,.bool cf.b,.slice cf.a cf.n cf.c],32)] rfl rfl rfl rfl sz30 hZ30 rfl rfl (zzF (by kernel_rfl)) (by kernel_rfl) (by kernel_rfl) (by kernel_rfl) (fun W20 hZ31=>?_))
 clear hZ30
 simp only [Stop,Act.put,zzC,zzD,zzE]
 go_wp2_with (refine zso rfl (fun K hK=>wp_load 30 (.tmp 12) rfl bk2 0 2 #[.bool dn.b,.slice dn.a dn.n dn.c] #[.bool dn.b,.slice dn.a dn.n dn.c] 30 (hZ31.es.at' _ (zzG (i:=1) rfl)) rfl ag30 sz30 (zzF (by kernel_rfl)) (by kernel_rfl) (hK _ _ ?_)))
 simp only [Stop,Act.put,zzC,zzD,zzE]
 go_wp2_with fail
 refine ((zStr (hZ31.get 1 (f:=dn.is) rfl) ez_dn (dt_sz (fun i j _ _=>eP_sz i j)) (by first | omega | exact Nat.le_trans (dtb_le (by omega) (by omega)) (by omega))).mono (fun _ _ h=>ptxt_dec h)).mono ?_
 rintro zz W21 ⟨rfl,hB⟩
 have hZ32:=hZ31.later hB
 clear hB hZ31
 go_wp2_with (refine zso rfl (fun K hK=>wp_load 30 (.tmp 13) rfl bk3 0 2 #[.bool tn.b,.slice tn.a tn.n tn.c] #[.bool tn.b,.slice tn.a tn.n tn.c] 30 (hZ32.es.at' _ (zzG (i:=0) rfl)) rfl ag30 sz30 (zzF (by kernel_rfl)) (by kernel_rfl) (hK _ _ ?_)))
 simp only [Stop,Act.put,zzC,zzD,zzE]
 go_wp2_with fail
 refine ((zStr (hZ32.get 0 (f:=tn.is) rfl) ez_tn e_top_sz (by first | omega | exact Nat.le_trans (dtb_le (by omega) (by omega)) (by omega))).mono (fun _ _ h=>ptxt_dec h)).mono ?_
 rintro zz W22 ⟨rfl,hB⟩
 have hZ33:=hZ32.later hB
 clear hB hZ32
 go_wp2_with (refine zso rfl (fun K hK=>wp_load 32 (.tmp 1) rfl bk1 0 4 #[pf.v,sf.v,.bool cf.b,.slice cf.a cf.n cf.c] #[pf.v,sf.v,.bool cf.b,.slice cf.a cf.n cf.c] 32 (hZ33.es.at' _ (zzG (i:=2) rfl)) rfl ag32 sz32 (zzF (by kernel_rfl)) (by kernel_rfl) (hK _ _ ?_)))
 simp only [Stop,Act.put,zzC,zzD,zzE]
 go_wp2_with fail
 refine (uWithY hZ33.nx pf sf s12 cf (k:=1) (r:=1) (e:=2) (hZ33.get 12 (f:=Mt 2 (fun _=>2) eP pf) rfl) (hZ33.get 11 (f:=Ls 2 eq_ sf) rfl) (hZ33.get 10 (f:=cf.is) rfl) ez_cf (hZ33.get 5 (f:=Ls 1 (xl 1 (l1 1)) s12) rfl) (fun i j _ _=>eP_sz i j) (fun i _=>eq_sz i) e_4 (fun i _=>xl_in l1_in i) e_sym (by omega) (by omega)).mono ?_
 rintro zz W23 ⟨pw,sw,cw,rfl,hi_pw,hi_sw,ez_cw,hi_cw,hB⟩
 have hZ34:=hZ33.later hB
 clear hB hZ33
 have hZ35:=hZ34.more (f:=Mt 1 (fun _=>1) eP pw) (Mt.stb _ _ _ _) hi_pw
 clear hZ34 hi_pw
 have hZ36:=hZ35.more (f:=Ls 1 (wq 1 1 eP eq_ (xl 1 (l1 1))) sw) (Ls.stb _ _ _) hi_sw
 clear hZ35 hi_sw
 have hZ37:=hZ36.more (f:=cw.is) cw.stb hi_cw
 clear hZ36 hi_cw
 go_wp2_with (refine zsa 32 #[.slice none 0 0,.slice none 0 0,.bool false,.slice none 0 0] (.agg #[.slice none 0 0,.slice none 0 0,.bool false,.slice none 0 0]) rfl rfl zv32 rfl hZ37 (fun bk4 X38 W24 hZ38=>?_))
 clear hZ37
 simp only [Stop,Act.put,zzC,zzD,zzE]
 go_wp2_with (refine zss 32 (.tmp 17) (.tmp 83) 0 bk4 0 #[.slice none 0 0,.slice none 0 0,.bool false,.slice none 0 0] 32 4 [pw.v,sw.v,.bool cw.b,.slice cw.a cw.n cw.c] #[pw.v,sw.v,.bool cw.b,.slice cw.a cw.n cw.c] [(bk4,#[pw.v,sw.v,.bool cw.b,.slice cw.a cw.n cw.c],32),(bk3,#[.bool tn.b,.slice tn.a tn.n tn.c],30),(bk2,#[.bool dn.b,.slice dn.a dn.n dn.c],30),(bk1,#[pf.v,sf.v,.bool cf.b,.slice cf.a cf.n cf.c],32)] rfl rfl rfl rfl sz32 hZ38 rfl rfl (zzF (by kernel_rfl)) (by kernel_rfl) (by kernel_rfl) (by kernel_rfl) (fun W25 hZ39=>?_))
 clear hZ38
 simp only [Stop,Act.put,zzC,zzD,zzE]
 go_wp2_with (refine zso rfl (fun K hK=>wp_load 32 (.tmp 1) rfl bk1 0 4 #[pf.v,sf.v,.bool cf.b,.slice cf.a cf.n cf.c] #[pf.v,sf.v,.bool cf.b,.slice cf.a cf.n cf.c] 32 (hZ39.es.at' _ (zzG (i:=3) rfl)) rfl ag32 sz32 (zzF (by kernel_rfl)) (by kernel_rfl) (hK _ _ ?_)))
 simp only [Stop,Act.put,zzC,zzD,zzE]
 go_wp2_with fail
 refine (uWoY hZ39.nx pf sf cf (k:=1) (r:=1) (e:=2) (hZ39.get 15 (f:=Mt 2 (fun _=>2) eP pf) rfl) (hZ39.get 14 (f:=Ls 2 eq_ sf) rfl) (hZ39.get 13 (f:=cf.is) rfl) ez_cf (fun i j _ _=>eP_sz i j) (fun i _=>eq_sz i) e_4 e_sym (by omega) (by omega) (by omega) (by omega) e_def1 (by rw [dt_1]; decide)).mono ?_
 rintro zz W26 ⟨po,so,co,dw,rfl,hi_po,hi_so,ez_co,hi_co,ez_dw,hi_dw,hB⟩
 have hZ40:=hZ39.later hB
 clear hB hZ39
 have hZ41:=hZ40.more (f:=Mt 1 (fun _=>1) (lp 1 eP) po) (Mt.stb _ _ _ _) hi_po
 clear hZ40 hi_po
 have hZ42:=hZ41.more (f:=Ls 1 (lq 1 eP eq_) so) (Ls.stb _ _ _) hi_so
 clear hZ41 hi_so
 have hZ43:=hZ42.more (f:=co.is) co.stb hi_co
 clear hZ42 hi_co
 have hZ44:=hZ43.more (f:=dw.is) dw.stb hi_dw
 clear hZ43 hi_dw
 go_wp2_with (refine zsa 32 #[.slice none 0 0,.slice none 0 0,.bool false,.slice none 0 0] (.agg #[.slice none 0 0,.slice none 0 0,.bool false,.slice none 0 0]) rfl rfl zv32 rfl hZ44 (fun bk5 X45 W27 hZ45=>?_))
 clear hZ44
 simp only [Stop,Act.put,zzC,zzD,zzE]
 go_wp2_with (refine zsa 30 #[.bool false,.slice none 0 0] (.agg #[.bool false,.slice none 0 0]) rfl rfl zv30 rfl hZ45 (fun bk6 X46 W28 hZ46=>?_))
 clear hZ45
 simp only [Stop,Act.put,zzC,zzD,zzE]
 go_wp2_with (refine zss 32 (.tmp 19) (.tmp 88) 1 bk5 0 #[.slice none 0 0,.slice none 0 0,.bool false,.slice none 0 0] 32 4 [po.v,so.v,.bool co.b,.slice co.a co.n co.c] #[po.v,so.v,.bool co.b,.slice co.a co.n co.c] [(bk6,#[.bool false,.slice none 0 0],30),(bk5,#[po.v,so.v,.bool co.b,.slice co.a co.n co.c],32),(bk4,#[pw.v,sw.v,.bool cw.b,.slice cw.a cw.n cw.c],32),(bk3,#[.bool tn.b,.slice tn.a tn.n tn.c],30),(bk2,#[.bool dn.b,.slice dn.a dn.n dn.c],30),(bk1,#[pf.v,sf.v,.bool cf.b,.slice cf.a cf.n cf.c],32)] rfl rfl rfl rfl sz32 hZ46 rfl rfl (zzF (by kernel_rfl)) (by kernel_rfl) (by kernel_rfl) (by kernel_rfl) (fun W29 hZ47=>?_))
 clear hZ46
 simp only [Stop,Act.put,zzC,zzD,zzE]
 go_wp2_with (refine zss 30 (.tmp 20) (.tmp 89) 0 bk6 0 #[.bool false,.slice none 0 0] 30 2 [.bool dw.b,.slice dw.a dw.n dw.c] #[.bool dw.b,.slice dw.a dw.n dw.c] [(bk6,#[.bool dw.b,.slice dw.a dw.n dw.c],30),(bk5,#[po.v,so.v,.bool co.b,.slice co.a co.n co.c],32),(bk4,#[pw.v,sw.v,.bool cw.b,.slice cw.a cw.n cw.c],32),(bk3,#[.bool tn.b,.slice tn.a tn.n tn.c],30),(bk2,#[.bool dn.b,.slice dn.a dn.n dn.c],30),(bk1,#[pf.v,sf.v,.bool cf.b,.slice cf.a cf.n cf.c],32)] rfl rfl rfl rfl sz30 hZ47 rfl rfl (zzF (by kernel_rfl)) (by kernel_rfl) (by kernel_rfl) (by kernel_rfl) (fun W30 hZ48=>?_))
 clear hZ47
 simp only [Stop,Act.put,zzC,zzD,zzE]
 go_wp2_with (refine zso rfl (fun K hK=>wp_load 30 (.tmp 20) rfl bk6 0 2 #[.bool dw.b,.slice dw.a dw.n dw.c] #[.bool dw.b,.slice dw.a dw.n dw.c] 30 (hZ48.es.at' _ (zzG (i:=0) rfl)) rfl ag30 sz30 (zzF (by kernel_rfl)) (by kernel_rfl) (hK _ _ ?_)))
 simp only [Stop,Act.put,zzC,zzD,zzE]
 go_wp2_with fail
 refine ((zStr (hZ48.get 0 (f:=dw.is) rfl) ez_dw (dt_sz (fun i j _ _=>eP_sz i j)) (by first | omega | exact Nat.le_trans (dtb_le (by omega) (by omega)) (by omega))).mono (fun _ _ h=>ptxt_dec h)).mono ?_
 rintro zz W31 ⟨rfl,hB⟩
 have hZ49:=hZ48.later hB
 clear hB hZ48
 go_wp2_with (refine stopz_bi2 ei23 (.const (.int .i64 1)) (.const (.int .i64 2)) rfl rfl rfl rfl hZ49 (fun s14 W32 hZ50=>?_))
 clear hZ49
 simp only [Stop,Act.put,zzC,zzD,zzE]
 go_wp2_with (refine stopz_bi2 ei23 (.const (.int .i64 3)) (.const (.int .i64 1)) rfl rfl rfl rfl hZ50 (fun s15 W33 hZ51=>?_))
 clear hZ50
 simp only [Stop,Act.put,zzC,zzD,zzE]
 go_wp2_with (refine stopz_bm2 ei22 (.tmp 94) (.tmp 95) rfl rfl rfl rfl hZ51 (hZ51.get 1 (f:=Li 2 (l2 1 2) s14) rfl) (hZ51.get 0 (f:=Li 2 (l2 3 1) s15) rfl) (fun s16 W34 hZ52=>?_))
 clear hZ51
 simp only [Stop,Act.put,zzC,zzD,zzE]
 go_wp2_with (refine stopz_bi2 ei23 (.const (.int .i64 1)) (.const (.int .i64 2)) rfl rfl rfl rfl hZ52 (fun s17 W35 hZ53=>?_))
 clear hZ52
 simp only [Stop,Act.put,zzC,zzD,zzE]
 go_wp2_with fail
 refine (uOfArg3 hZ53.nx s16 s17 (hZ53.get 1 (f:=Mi 2 (fun _=>2) (m2 (l2 1 2) (l2 3 1)) s16) rfl) (hZ53.get 0 (f:=Li 2 (l2 1 2) s17) rfl) (fun i j _ _=>m2_in (by decide) (by decide) (by decide) (by decide) i j) ⟨by omega,fun _ _=>rfl⟩ e_nosym).mono ?_
 rintro zz W36 ⟨rfl,hB⟩
 have hZ54:=hZ53.later hB
 clear hB hZ53
 go_wp2_with (refine zsa 32 #[.slice none 0 0,.slice none 0 0,.bool false,.slice none 0 0] (.agg #[.slice none 0 0,.slice none 0 0,.bool false,.slice none 0 0]) rfl rfl zv32 rfl hZ54 (fun bk7 X55 W37 hZ55=>?_))
 clear hZ54
 simp only [Stop,Act.put,zzC,zzD,zzE]
 go_wp2_with (refine zss 32 (.tmp 23) (.tmp 99) 0 bk7 0 #[.slice none 0 0,.slice none 0 0,.bool false,.slice none 0 0] 32 4 [.slice none 0 0,.slice none 0 0,.bool false,.slice none 0 0] #[.slice none 0 0,.slice none 0 0,.bool false,.slice none 0 0] [(bk7,#[.slice none 0 0,.slice none 0 0,.bool false,.slice none 0 0],32),(bk6,#[.bool dw.b,.slice dw.a dw.n dw.c],30),(bk5,#[po.v,so.v,.bool co.b,.slice co.a co.n co.c],32),(bk4,#[pw.v,sw.v,.bool cw.b,.slice cw.a cw.n cw.c],32),(bk3,#[.bool tn.b,.slice tn.a tn.n tn.c],30),(bk2,#[.bool dn.b,.slice dn.a dn.n dn.c],30),(bk1,#[pf.v,sf.v,.bool cf.b,.slice cf.a cf.n cf.c],32)] rfl rfl rfl rfl sz32 hZ55 rfl rfl (zzF (by kernel_rfl)) (by kernel_rfl) (by kernel_rfl) (by kernel_rfl) (fun W38 hZ56=>?_))
 clear hZ55
 simp only [Stop,Act.put,zzC,zzD,zzE]
 go_wp2_with (refine zso rfl (fun K hK=>wp_seql (.tmp 101) (.const (.string ⟨([53]).toArray⟩)) 9 9 rfl rfl rfl rfl (r:=true) (decide_eq_true e_val) (hK _ _ ?_)))
 simp only [Stop,Act.put,zzC,zzD,zzE]
 go_wp2_with fail
 refine (tText hZ56.nx sl (hZ56.get 14 (f:=Ls 2 (fun i=>M.mulv 2 eP (xl 0 (fun _=>0)) i - eq_ i) sl) rfl) (e_slope_sz (fun _=>0)) (by omega) (by first | omega | exact Nat.le_trans (dtb_le (by omega) (by omega)) (by omega))).mono ?_
 rintro zz W39 ⟨rfl,hB⟩
 have hZ57:=hZ56.later hB
 clear hB hZ56
 go_wp2_with (refine zsw (by kernel_rfl) (fun K hK=>wp_seql (.tmp 105) (.const (.string ⟨([45,49,32,45,50,32]).toArray⟩)) 9 9 rfl rfl rfl rfl (r:=true) (decide_eq_true (e_slope _)) (hK _ _ ?_)))
 simp only [Stop,Act.put,zzC,zzD,zzE]
 go_wp2_with fail
 refine (tText hZ57.nx sn (hZ57.get 13 (f:=Ls 2 (crx 2 eP eq_) sn) rfl) (fun j _=>crx_sz (fun i j _ _=>eP_sz i j) (fun i _=>eq_sz i) j) (by omega) (by first | omega | exact Nat.le_trans (dtb_le (by omega) (by omega)) (by omega))).mono ?_
 rintro zz W40 ⟨rfl,hB⟩
 have hZ58:=hZ57.later hB
 clear hB hZ57
 go_wp2_with (refine zsw (by kernel_rfl) (fun K hK=>wp_seql (.tmp 110) (.const (.string ⟨([49,32,51,32]).toArray⟩)) 9 9 rfl rfl rfl rfl (r:=true) (decide_eq_true e_num) (hK _ _ ?_)))
 simp only [Stop,Act.put,zzC,zzD,zzE]
 go_wp2_with (refine zsw (by kernel_rfl) (fun K hK=>wp_seql (.tmp 114) (.const (.string ⟨([53]).toArray⟩)) 9 9 rfl rfl rfl rfl (r:=true) (decide_eq_true e_den) (hK _ _ ?_)))
 simp only [Stop,Act.put,zzC,zzD,zzE]
 go_wp2_with (refine zsw (by kernel_rfl) (fun K hK=>wp_seql (.tmp 118) (.const (.string ⟨([49,51]).toArray⟩)) 9 9 rfl rfl rfl rfl (r:=true) (decide_eq_true e_top) (hK _ _ ?_)))
 simp only [Stop,Act.put,zzC,zzD,zzE]
 go_wp2_with (refine zsw (by kernel_rfl) (fun K hK=>wp_load 32 (.tmp 17) rfl bk4 0 4 #[pw.v,sw.v,.bool cw.b,.slice cw.a cw.n cw.c] #[pw.v,sw.v,.bool cw.b,.slice cw.a cw.n cw.c] 32 (hZ58.es.at' _ (zzG (i:=3) rfl)) rfl ag32 sz32 (zzF (by kernel_rfl)) (by kernel_rfl) (hK _ _ ?_)))
 simp only [Stop,Act.put,zzC,zzD,zzE]
 go_wp2_with fail
 refine (tWhole hZ58.nx pw sw cw (e:=2) (hZ58.get 10 (f:=Mt 1 (fun _=>1) eP pw) rfl) (hZ58.get 9 (f:=Ls 1 (wq 1 1 eP eq_ (xl 1 (l1 1))) sw) rfl) (hZ58.get 8 (f:=cw.is) rfl) ez_cw (fun i j _ _=>eP_sz i j) e_wq_sz e_wc_sz (by omega) (by omega)).mono ?_
 rintro zz W41 ⟨rfl,hB⟩
 have hZ59:=hZ58.later hB
 clear hB hZ58
 go_wp2_with (refine zsw (by kernel_rfl) (fun K hK=>wp_seql (.tmp 131) (.const (.string ⟨([50,32,59,48,32,59,51]).toArray⟩)) 9 9 rfl rfl rfl rfl (r:=true) (decide_eq_true e_with) (hK _ _ ?_)))
 simp only [Stop,Act.put,zzC,zzD,zzE]
 go_wp2_with (refine zsw (by kernel_rfl) (fun K hK=>wp_seql (.tmp 139) (.const (.string ⟨([50]).toArray⟩)) 9 9 rfl rfl rfl rfl (r:=true) (decide_eq_true e_scale) (hK _ _ ?_)))
 simp only [Stop,Act.put,zzC,zzD,zzE]
 go_wp2_with (refine zsw (by kernel_rfl) (fun K hK=>wp_load 32 (.tmp 19) rfl bk5 0 4 #[po.v,so.v,.bool co.b,.slice co.a co.n co.c] #[po.v,so.v,.bool co.b,.slice co.a co.n co.c] 32 (hZ59.es.at' _ (zzG (i:=2) rfl)) rfl ag32 sz32 (zzF (by kernel_rfl)) (by kernel_rfl) (hK _ _ ?_)))
 simp only [Stop,Act.put,zzC,zzD,zzE]
 go_wp2_with fail
 refine (tWhole hZ59.nx po so co (e:=30) (hZ59.get 7 (f:=Mt 1 (fun _=>1) (lp 1 eP) po) rfl) (hZ59.get 6 (f:=Ls 1 (lq 1 eP eq_) so) rfl) (hZ59.get 5 (f:=co.is) rfl) ez_co e_lp_sz e_lq_sz e_lc_sz (by omega) (by omega)).mono ?_
 rintro zz W42 ⟨rfl,hB⟩
 have hZ60:=hZ59.later hB
 clear hB hZ59
 go_wp2_with (refine zsw (by kernel_rfl) (fun K hK=>wp_seql (.tmp 144) (.const (.string ⟨([53,32,59,51,32,59,55]).toArray⟩)) 9 9 rfl rfl rfl rfl (r:=true) (decide_eq_true e_wo) (hK _ _ ?_)))
 simp only [Stop,Act.put,zzC,zzD,zzE]
 go_wp2
 go_ret
 exact ⟨rfl,hZ60.below⟩
end Go.Proofs.YtjclllindbfmhabGreatDoor
