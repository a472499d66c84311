/- Parts of the proof. -/
import Derived.Test.YtjclllindbfmhaaGreatDoorHn0
import Derived.Test.YtjclllindbfmhaaGreatDoorHn41
import Derived.Test.YtjclllindbfmhaaGreatDoorHn43
import Derived.Test.YtjclllindbfmhaaGreatDoorHn39
import Derived.Test.YtjclllindbfmhaaGreatDoorHn45
import Derived.Test.YtjclllindbfmhaaGreatDoorHn46
set_option linter.unusedSimpArgs false
set_option linter.unusedVariables false
namespace Go.Proofs.YtjclllindbfmhaaGreatDoor
/- The law QuadParts of layer 8, walked. No statement of the seat is proved here. -/
open Go Go.RowKit
open Classical in
set_option maxRecDepth 100000 in
set_option maxHeartbeats 25600000 in
theorem uqp3 {X0:Nat→Prop} {w:World} (hX:NX X0 w) (ra qa la:Sl) (m kx kl:Nat) (c:Nat→Nat) (R:Nat→Nat→Int) (x:Nat→Int) (cc:Int) (xl_:Nat→Int) (hra:Mi m c R ra X0 w) (hqa:Li kx x qa X0 w) (hla:Li kl xl_ la X0 w) (rgR0:∀ i j,i < m→j < c i→-9223372036854775808≤R i j∧R i j≤9223372036854775807) (rgx0:∀ i,i < kx→-9223372036854775808≤x i∧x i≤9223372036854775807) (hcc:-9223372036854775808≤cc∧cc≤9223372036854775807) (rgl0:∀ i,i < kl→-9223372036854775808≤xl_ i∧xl_ i≤9223372036854775807) (k r:Nat) (hnm:k+r≤m) (hmin:(((m:Nat):Int)≤((5:Nat):Int)∧((k+r:Nat):Int)=((m:Nat):Int))∨(((5:Nat):Int) < ((m:Nat):Int)∧((k+r:Nat):Int)=((5:Nat):Int))) (hnu:k+r≤5) (ho:¬ (Sym k (mir c R)∧∀ i,i < k→0 < M.dt (i+1) (mir c R))):Calls Tryz.prog 5 #[ra.v,qa.v,.int .i64 cc,la.v,.int .i64 ((k:Nat):Int)] w (PVal (.bool true) w):=by
 have rgR:=Lib.hid rgR0
 clear rgR0
 have rgx:=Lib.hid rgx0
 clear rgx0
 have rgl:=Lib.hid rgl0
 clear rgl0
 have BPm:∀ i j,i < k+r→j < k+r→Sz 2 (mir c R i j):=(fun (i j:Nat) hi hj=>sz_int (mir_in rgR.out (Nat.lt_of_lt_of_le hi hnm) (Nat.lt_of_lt_of_le hj hnm)).1 (mir_in rgR.out (Nat.lt_of_lt_of_le hi hnm) (Nat.lt_of_lt_of_le hj hnm)).2)
 have BQm:∀ i,i < k+r→Sz 2 (xl kx x i):=fun i _=>xl_in rgx.out i
 have BCm:Sz 2 cc:=sz_int hcc.1 hcc.2
 have BXm:∀ i,Sz 2 (xl kl xl_ i):=fun i=>xl_in rgl.out i
 have hZ0:=zs_start hX
 have hZ1:=hZ0.more (f:=Li kl xl_ la) (Li.stb _ _ _) hla
 clear hZ0
 have hZ2:=hZ1.more (f:=Li kx x qa) (Li.stb _ _ _) hqa
 clear hZ1
 have hZ3:=hZ2.more (f:=Mi m c R ra) (Mi.stb _ _ _ _) hra
 clear hZ2
 go_enter Tryz.func5,Tryz.ntmps5
 have HO:=Lib.hid ho
 clear ho
 have hdb:dtb 2 k≤3000:=dtb_le (by omega) (by omega)
 have hlb:lpb 2 k≤150:=lpb_le (by omega)
 have BKm:∀ i j,i < k→j < k→Sz 2 (mir c R i j):=fun i j hi hj=>BPm i j (by omega) (by omega)
 have BK6:∀ i j,i < k→j < k→Sz 60 (mir c R i j):=fun i j hi hj=>(BKm i j hi hj).mono (by omega)
 have BW6:∀ i,i < k→Sz 60 (wq k r (mir c R) (xl kx x) (xl kl xl_) i):=wq_sz BPm BQm (fun i _=>BXm i) (by omega)
 have BC6:Sz 60 (wc k r (mir c R) (xl kx x) cc (xl kl xl_)):=wc_sz (fun i j _ _=>mir_sym c R i j) BPm BQm BCm (fun i _=>BXm i) (by omega)
 go_wp2_with fail
 refine (uAwake hZ3.nx).mono ?_
 rintro zz W1 ⟨rfl,hB⟩
 have hZ4:=hZ3.later hB
 clear hB hZ3
 go_wp2_with fail
 refine (uRead hZ4.nx ra qa 5 (k+r) (hZ4.get 0 (f:=Mi m c R ra) rfl) (hZ4.get 1 (f:=Li kx x qa) rfl) rgR.out rgx.out hcc (by omega) hnm hmin).mono ?_
 rintro zz W2 ⟨pf,sf,cf,pfd,sfd,cfd,rfl,hi_pf,hi_sf,ez_cf,hi_cf,hi_pfd,hi_sfd,ez_cfd,hi_cfd,hB⟩
 have hZ5:=hZ4.later hB
 clear hB hZ4
 have hZ6:=hZ5.more (f:=Mt (k+r) (fun _=>k+r) (mir c R) pf) (Mt.stb _ _ _ _) hi_pf
 clear hZ5 hi_pf
 have hZ7:=hZ6.more (f:=Ls (k+r) (xl kx x) sf) (Ls.stb _ _ _) hi_sf
 clear hZ6 hi_sf
 have hZ8:=hZ7.more (f:=cf.is) cf.stb hi_cf
 clear hZ7 hi_cf
 have hZ9:=hZ8.more (f:=Mr (k+r) (fun _=>k+r) (mir c R) pfd) (Mr.stb _ _ _ _) hi_pfd
 clear hZ8 hi_pfd
 have hZ10:=hZ9.more (f:=Lr (k+r) (xl kx x) sfd) (Lr.stb _ _ _) hi_sfd
 clear hZ9 hi_sfd
 have hZ11:=hZ10.more (f:=cfd.ir) cfd.stbr hi_cfd
 clear hZ10 hi_cfd
 go_wp2_with (refine zsa 32 #[.slice none 0 0,.slice none 0 0,.bool false,.slice none 0 0] (.agg #[.slice none 0 0,.slice none 0 0,.bool false,.slice none 0 0]) rfl rfl zv32 rfl hZ11 (fun bk1 X12 W3 hZ12=>?_))
 clear hZ11
 simp only [Stop,Act.put,zzC,zzD,zzE]
 go_wp2_with (refine zsa 45 #[.slice none 0 0,.slice none 0 0,.bool false,.slice none 0 0] (.agg #[.slice none 0 0,.slice none 0 0,.bool false,.slice none 0 0]) rfl rfl zv45 rfl hZ12 (fun bk2 X13 W4 hZ13=>?_))
 clear hZ12
 simp only [Stop,Act.put,zzC,zzD,zzE]
 go_wp2_with (refine zss 32 (.tmp 12) (.tmp 40) 1 bk1 0 #[.slice none 0 0,.slice none 0 0,.bool false,.slice none 0 0] 32 4 [pf.v,sf.v,.bool cf.b,.slice cf.a cf.n cf.c] #[pf.v,sf.v,.bool cf.b,.slice cf.a cf.n cf.c] [(bk2,#[.slice none 0 0,.slice none 0 0,.bool false,.slice none 0 0],45),(bk1,#[pf.v,sf.v,.bool cf.b,.slice cf.a cf.n cf.c],32)] rfl rfl rfl rfl sz32 hZ13 rfl rfl (zzF (by kernel_rfl)) (by kernel_rfl) (by kernel_rfl) (by kernel_rfl) (fun W5 hZ14=>?_))
 clear hZ13
 simp only [Stop,Act.put,zzC,zzD,zzE]
 go_wp2_with (refine zss 45 (.tmp 13) (.tmp 41) 0 bk2 0 #[.slice none 0 0,.slice none 0 0,.bool false,.slice none 0 0] 45 4 [pfd.v,sfd.v,.bool cfd.b,.slice cfd.a cfd.n cfd.c] #[pfd.v,sfd.v,.bool cfd.b,.slice cfd.a cfd.n cfd.c] [(bk2,#[pfd.v,sfd.v,.bool cfd.b,.slice cfd.a cfd.n cfd.c],45),(bk1,#[pf.v,sf.v,.bool cf.b,.slice cf.a cf.n cf.c],32)] rfl rfl rfl rfl sz45 hZ14 rfl rfl (zzF (by kernel_rfl)) (by kernel_rfl) (by kernel_rfl) (by kernel_rfl) (fun W6 hZ15=>?_))
 clear hZ14
 simp only [Stop,Act.put,zzC,zzD,zzE]
 go_wp2_with (refine zso rfl (fun K hK=>wp_fda (v:=.pointer (some ⟨bk1,0,none⟩)) 32 (.tmp 12) 0 rfl rfl (fun _=>by kernel_rfl) (hK _ _ ?_)))
 simp only [Stop,Act.put,zzC,zzD,zzE]
 go_wp2_with (refine zso rfl (fun K hK=>wp_load1 (v:=pf.v) 26 (.tmp 46) rfl bk1 0 #[pf.v,sf.v,.bool cf.b,.slice cf.a cf.n cf.c] 32 (hZ15.es.at' _ (zzG (i:=1) rfl)) rfl ag26 (by kernel_rfl) (hK _ _ ?_)))
 simp only [Stop,Act.put,zzC,zzD,zzE]
 go_wp2_with (refine zso rfl (fun K hK=>wp_lenq (.tmp 47) 26 27 pf rfl (by kernel_rfl) rfl (hZ15.get 5 (f:=Mt (k+r) (fun _=>k+r) (mir c R) pf) rfl).n (hK _ _ ?_)))
 simp only [Stop,Act.put,zzC,zzD,zzE]
 go_wp2_with (refine zso rfl (fun K hK=>wp_lssi (.tmp 49) (.const (.int .i64 0)) rfl rfl rfl (r:=false) (decide_eq_false (by omega)) (hK _ _ ?_)))
 simp only [Stop,Act.put,zzC,zzD,zzE]
 go_wp2_with (refine zsw (by kernel_rfl) (fun K hK=>wp_gtri (.tmp 52) (.tmp 53) rfl rfl rfl (r:=false) (decide_eq_false (by omega)) (hK _ _ ?_)))
 simp only [Stop,Act.put,zzC,zzD,zzE]
 go_wp2_with (refine zso rfl (fun K hK=>wp_subi (.tmp 87) (.tmp 88) rfl rfl rfl (C:=((r:Nat):Int)) (by omega) (by omega) (by omega) (hK _ _ ?_)))
 simp only [Stop,Act.put,zzC,zzD,zzE]
 go_wp2_with fail
 refine (uList hZ15.nx la r (hZ15.get 8 (f:=Li kl xl_ la) rfl) (by omega) rgl.out).mono ?_
 rintro zz W7 ⟨s2,d2,rfl,hi_s2,hi_d2,hB⟩
 have hZ16:=hZ15.later hB
 clear hB hZ15
 have hZ17:=hZ16.more (f:=Ls r (xl kl xl_) s2) (Ls.stb _ _ _) hi_s2
 clear hZ16 hi_s2
 have hZ18:=hZ17.more (f:=Lr r (xl kl xl_) d2) (Lr.stb _ _ _) hi_d2
 clear hZ17 hi_d2
 go_wp2_with (refine zso rfl (fun K hK=>wp_load 32 (.tmp 12) rfl bk1 0 4 #[pf.v,sf.v,.bool cf.b,.slice cf.a cf.n cf.c] #[pf.v,sf.v,.bool cf.b,.slice cf.a cf.n cf.c] 32 (hZ18.es.at' _ (zzG (i:=1) rfl)) rfl ag32 sz32 (zzF (by kernel_rfl)) (by kernel_rfl) (hK _ _ ?_)))
 simp only [Stop,Act.put,zzC,zzD,zzE]
 go_wp2_with fail
 refine (uWithY hZ18.nx pf sf s2 cf (k:=k) (r:=r) (e:=2) (hZ18.get 7 (f:=Mt (k+r) (fun _=>k+r) (mir c R) pf) rfl) (hZ18.get 6 (f:=Ls (k+r) (xl kx x) sf) rfl) (hZ18.get 5 (f:=cf.is) rfl) ez_cf (hZ18.get 1 (f:=Ls r (xl kl xl_) s2) rfl) BPm BQm BCm (fun (i:Nat) _=>BXm i) (fun i j _ _=>mir_sym c R i j) (by omega) (by omega)).mono ?_
 rintro zz W8 ⟨pw,sw,cw,rfl,hi_pw,hi_sw,ez_cw,hi_cw,hB⟩
 have hZ19:=hZ18.later hB
 clear hB hZ18
 have hZ20:=hZ19.more (f:=Mt k (fun _=>k) (mir c R) pw) (Mt.stb _ _ _ _) hi_pw
 clear hZ19 hi_pw
 have hZ21:=hZ20.more (f:=Ls k (wq k r (mir c R) (xl kx x) (xl kl xl_)) sw) (Ls.stb _ _ _) hi_sw
 clear hZ20 hi_sw
 have hZ22:=hZ21.more (f:=cw.is) cw.stb hi_cw
 clear hZ21 hi_cw
 go_wp2_with (refine zsa 32 #[.slice none 0 0,.slice none 0 0,.bool false,.slice none 0 0] (.agg #[.slice none 0 0,.slice none 0 0,.bool false,.slice none 0 0]) rfl rfl zv32 rfl hZ22 (fun bk3 X23 W9 hZ23=>?_))
 clear hZ22
 simp only [Stop,Act.put,zzC,zzD,zzE]
 go_wp2_with (refine zss 32 (.tmp 25) (.tmp 97) 0 bk3 0 #[.slice none 0 0,.slice none 0 0,.bool false,.slice none 0 0] 32 4 [pw.v,sw.v,.bool cw.b,.slice cw.a cw.n cw.c] #[pw.v,sw.v,.bool cw.b,.slice cw.a cw.n cw.c] [(bk3,#[pw.v,sw.v,.bool cw.b,.slice cw.a cw.n cw.c],32),(bk2,#[pfd.v,sfd.v,.bool cfd.b,.slice cfd.a cfd.n cfd.c],45),(bk1,#[pf.v,sf.v,.bool cf.b,.slice cf.a cf.n cf.c],32)] rfl rfl rfl rfl sz32 hZ23 rfl rfl (zzF (by kernel_rfl)) (by kernel_rfl) (by kernel_rfl) (by kernel_rfl) (fun W10 hZ24=>?_))
 clear hZ23
 simp only [Stop,Act.put,zzC,zzD,zzE]
 go_wp2_with (refine zso rfl (fun K hK=>wp_load 32 (.tmp 12) rfl bk1 0 4 #[pf.v,sf.v,.bool cf.b,.slice cf.a cf.n cf.c] #[pf.v,sf.v,.bool cf.b,.slice cf.a cf.n cf.c] 32 (hZ24.es.at' _ (zzG (i:=2) rfl)) rfl ag32 sz32 (zzF (by kernel_rfl)) (by kernel_rfl) (hK _ _ ?_)))
 simp only [Stop,Act.put,zzC,zzD,zzE]
 go_wp2_with fail
 refine (uWoFlat hZ24.nx pf sf cf (k:=k) (r:=r) (e:=2) (hZ24.get 10 (f:=Mt (k+r) (fun _=>k+r) (mir c R) pf) rfl) (hZ24.get 9 (f:=Ls (k+r) (xl kx x) sf) rfl) (hZ24.get 8 (f:=cf.is) rfl) ez_cf BPm BQm BCm (fun i j _ _=>mir_sym c R i j) (by omega) (by omega) (by omega) (by omega) HO.out).mono ?_
 rintro zz W11 ⟨rfl,hB⟩
 have hZ25:=hZ24.later hB
 clear hB hZ24
 go_wp2_with (refine zsa 32 #[.slice none 0 0,.slice none 0 0,.bool false,.slice none 0 0] (.agg #[.slice none 0 0,.slice none 0 0,.bool false,.slice none 0 0]) rfl rfl zv32 rfl hZ25 (fun bk4 X26 W12 hZ26=>?_))
 clear hZ25
 simp only [Stop,Act.put,zzC,zzD,zzE]
 go_wp2_with (refine zsa 30 #[.bool false,.slice none 0 0] (.agg #[.bool false,.slice none 0 0]) rfl rfl zv30 rfl hZ26 (fun bk5 X27 W13 hZ27=>?_))
 clear hZ26
 simp only [Stop,Act.put,zzC,zzD,zzE]
 go_wp2_with (refine zss 32 (.tmp 27) (.tmp 103) 1 bk4 0 #[.slice none 0 0,.slice none 0 0,.bool false,.slice none 0 0] 32 4 [.slice none 0 0,.slice none 0 0,.bool false,.slice none 0 0] #[.slice none 0 0,.slice none 0 0,.bool false,.slice none 0 0] [(bk5,#[.bool false,.slice none 0 0],30),(bk4,#[.slice none 0 0,.slice none 0 0,.bool false,.slice none 0 0],32),(bk3,#[pw.v,sw.v,.bool cw.b,.slice cw.a cw.n cw.c],32),(bk2,#[pfd.v,sfd.v,.bool cfd.b,.slice cfd.a cfd.n cfd.c],45),(bk1,#[pf.v,sf.v,.bool cf.b,.slice cf.a cf.n cf.c],32)] rfl rfl rfl rfl sz32 hZ27 rfl rfl (zzF (by kernel_rfl)) (by kernel_rfl) (by kernel_rfl) (by kernel_rfl) (fun W14 hZ28=>?_))
 clear hZ27
 simp only [Stop,Act.put,zzC,zzD,zzE]
 go_wp2_with (refine zss 30 (.tmp 28) (.tmp 104) 0 bk5 0 #[.bool false,.slice none 0 0] 30 2 [.bool false,.slice none 0 0] #[.bool false,.slice none 0 0] [(bk5,#[.bool false,.slice none 0 0],30),(bk4,#[.slice none 0 0,.slice none 0 0,.bool false,.slice none 0 0],32),(bk3,#[pw.v,sw.v,.bool cw.b,.slice cw.a cw.n cw.c],32),(bk2,#[pfd.v,sfd.v,.bool cfd.b,.slice cfd.a cfd.n cfd.c],45),(bk1,#[pf.v,sf.v,.bool cf.b,.slice cf.a cf.n cf.c],32)] rfl rfl rfl rfl sz30 hZ28 rfl rfl (zzF (by kernel_rfl)) (by kernel_rfl) (by kernel_rfl) (by kernel_rfl) (fun W15 hZ29=>?_))
 clear hZ28
 simp only [Stop,Act.put,zzC,zzD,zzE]
 go_wp2_with (refine zso rfl (fun K hK=>wp_load 45 (.tmp 13) rfl bk2 0 4 #[pfd.v,sfd.v,.bool cfd.b,.slice cfd.a cfd.n cfd.c] #[pfd.v,sfd.v,.bool cfd.b,.slice cfd.a cfd.n cfd.c] 45 (hZ29.es.at' _ (zzG (i:=3) rfl)) rfl ag45 sz45 (zzF (by kernel_rfl)) (by kernel_rfl) (hK _ _ ?_)))
 simp only [Stop,Act.put,zzC,zzD,zzE]
 go_wp2_with fail
 refine (dWoFlat8 hZ29.nx pfd sfd cfd (k:=k) (r:=r) (e:=2) (hZ29.get 7 (f:=Mr (k+r) (fun _=>k+r) (mir c R) pfd) rfl) (hZ29.get 6 (f:=Lr (k+r) (xl kx x) sfd) rfl) (hZ29.get 5 (f:=cfd.ir) rfl) ez_cfd BPm BQm BCm (by omega) (by omega) (by omega) (by omega) HO.out).mono ?_
 rintro zz W16 ⟨rfl,hB⟩
 have hZ30:=hZ29.later hB
 clear hB hZ29
 go_wp2_with (refine zsa 45 #[.slice none 0 0,.slice none 0 0,.bool false,.slice none 0 0] (.agg #[.slice none 0 0,.slice none 0 0,.bool false,.slice none 0 0]) rfl rfl zv45 rfl hZ30 (fun bk6 X31 W17 hZ31=>?_))
 clear hZ30
 simp only [Stop,Act.put,zzC,zzD,zzE]
 go_wp2_with (refine zsa 43 #[.bool false,.slice none 0 0] (.agg #[.bool false,.slice none 0 0]) rfl rfl zv43 rfl hZ31 (fun bk7 X32 W18 hZ32=>?_))
 clear hZ31
 simp only [Stop,Act.put,zzC,zzD,zzE]
 go_wp2_with (refine zss 45 (.tmp 30) (.tmp 110) 1 bk6 0 #[.slice none 0 0,.slice none 0 0,.bool false,.slice none 0 0] 45 4 [.slice none 0 0,.slice none 0 0,.bool false,.slice none 0 0] #[.slice none 0 0,.slice none 0 0,.bool false,.slice none 0 0] [(bk7,#[.bool false,.slice none 0 0],43),(bk6,#[.slice none 0 0,.slice none 0 0,.bool false,.slice none 0 0],45),(bk5,#[.bool false,.slice none 0 0],30),(bk4,#[.slice none 0 0,.slice none 0 0,.bool false,.slice none 0 0],32),(bk3,#[pw.v,sw.v,.bool cw.b,.slice cw.a cw.n cw.c],32),(bk2,#[pfd.v,sfd.v,.bool cfd.b,.slice cfd.a cfd.n cfd.c],45),(bk1,#[pf.v,sf.v,.bool cf.b,.slice cf.a cf.n cf.c],32)] rfl rfl rfl rfl sz45 hZ32 rfl rfl (zzF (by kernel_rfl)) (by kernel_rfl) (by kernel_rfl) (by kernel_rfl) (fun W19 hZ33=>?_))
 clear hZ32
 simp only [Stop,Act.put,zzC,zzD,zzE]
 go_wp2_with (refine zss 43 (.tmp 31) (.tmp 111) 0 bk7 0 #[.bool false,.slice none 0 0] 43 2 [.bool false,.slice none 0 0] #[.bool false,.slice none 0 0] [(bk7,#[.bool false,.slice none 0 0],43),(bk6,#[.slice none 0 0,.slice none 0 0,.bool false,.slice none 0 0],45),(bk5,#[.bool false,.slice none 0 0],30),(bk4,#[.slice none 0 0,.slice none 0 0,.bool false,.slice none 0 0],32),(bk3,#[pw.v,sw.v,.bool cw.b,.slice cw.a cw.n cw.c],32),(bk2,#[pfd.v,sfd.v,.bool cfd.b,.slice cfd.a cfd.n cfd.c],45),(bk1,#[pf.v,sf.v,.bool cf.b,.slice cf.a cf.n cf.c],32)] rfl rfl rfl rfl sz43 hZ33 rfl rfl (zzF (by kernel_rfl)) (by kernel_rfl) (by kernel_rfl) (by kernel_rfl) (fun W20 hZ34=>?_))
 clear hZ33
 simp only [Stop,Act.put,zzC,zzD,zzE]
 go_wp2
 obtain ⟨XR16,hZ35⟩:∃ Xr,Zs w W20 X0 Xr [(bk7,#[.bool false,.slice none 0 0],43),(bk6,#[.slice none 0 0,.slice none 0 0,.bool false,.slice none 0 0],45),(bk5,#[.bool false,.slice none 0 0],30),(bk4,#[.slice none 0 0,.slice none 0 0,.bool false,.slice none 0 0],32),(bk3,#[pw.v,sw.v,.bool cw.b,.slice cw.a cw.n cw.c],32),(bk2,#[pfd.v,sfd.v,.bool cfd.b,.slice cfd.a cfd.n cfd.c],45),(bk1,#[pf.v,sf.v,.bool cf.b,.slice cf.a cf.n cf.c],32)] [cw.is,Ls k (wq k r (mir c R) (xl kx x) (xl kl xl_)) sw,Mt k (fun _=>k) (mir c R) pw,Lr r (xl kl xl_) d2,Ls r (xl kl xl_) s2,cfd.ir,Lr (k+r) (xl kx x) sfd,Mr (k+r) (fun _=>k+r) (mir c R) pfd,cf.is,Ls (k+r) (xl kx x) sf,Mt (k+r) (fun _=>k+r) (mir c R) pf,Mi m c R ra,Li kx x qa,Li kl xl_ la]:=⟨_,hZ34⟩
 clear hZ34
 refine zrp 24 [some 115,some 116,some 117,some 118,some 119,some 120,some 121,some 122,some 123,some 124,some 125,some 126,some 127,some 128,some 129,some 130,some 131,some 132,some 133,some 134,some 135,some 136,some 137,some 138] [veq (.bool true),veq (.bool true),veq (.int .i64 0),veq (.bool true),veq (.bool true),veq (.bool true),veq (.agg #[pw.v,sw.v,.bool cw.b,.slice cw.a cw.n cw.c]),veq (.string ⟨(whU k (mir c R) (wq k r (mir c R) (xl kx x) (xl kl xl_)) (wc k r (mir c R) (xl kx x) cc (xl kl xl_))).toArray⟩),veq (.agg #[pfd.v,sfd.v,.bool cfd.b,.slice cfd.a cfd.n cfd.c]),veq (d2.v),vuxr k (mir c R) (wq k r (mir c R) (xl kx x) (xl kl xl_)) (wc k r (mir c R) (xl kx x) cc (xl kl xl_)),veq (.string ⟨(whU k (mir c R) (wq k r (mir c R) (xl kx x) (xl kl xl_)) (wc k r (mir c R) (xl kx x) cc (xl kl xl_))).toArray⟩),veq (.bool true),veq (.bool true),veq (.bool true),veq (.int .i64 80),veq (.bool true),veq (.bool true),veq (.bool true),veq (.pointer (some ⟨bk4,0,none⟩)),veq (.slice none 0 0),veq (.int .i64 (((0:Nat):Int))),veq (.bool true),veq (.bool true)] (by kernel_rfl) (by kernel_rfl) (by rfl) (by decide) (by rfl) hZ35 ?_ ?_
 ·
  intro iq hlq hiq LL uu ww aa hLi hLc hJ hd hall hev hin hold
  clear hZ35
  obtain rfl | rfl | rfl | rfl | rfl | rfl | rfl | rfl | rfl | rfl | rfl | rfl | rfl | rfl | rfl | rfl | rfl | rfl | rfl | rfl | rfl | rfl | rfl | rfl:iq=0∨iq=1∨iq=2∨iq=3∨iq=4∨iq=5∨iq=6∨iq=7∨iq=8∨iq=9∨iq=10∨iq=11∨iq=12∨iq=13∨iq=14∨iq=15∨iq=16∨iq=17∨iq=18∨iq=19∨iq=20∨iq=21∨iq=22∨iq=23:=by omega
  ·
   exact oz rfl (fun _ hK=>wp_move (.tmp 11) rfl (zet ((hev 11 (by decide)).trans rfl)) (hK _ _ hJ rfl vsm))
  ·
   exact oz rfl (fun _ hK=>wp_move (.tmp 115) rfl (zj (hin 0 115 rfl) (show uu 0=.bool true from (hd 0 (by kernel_rfl)))) (hK _ _ hJ rfl vsm))
  ·
   exact oz (wanted_at (g:=1) (b:=true) (t:=116) rfl rfl ((hin 1 116 rfl).trans (congrArg some (show uu 1=.bool true from (hd 1 (by kernel_rfl))))) rfl) (fun _ hK=>wp_move (.tmp 26) rfl (zet ((hev 26 (by decide)).trans rfl)) (hK _ _ hJ rfl vsm))
  ·
   exact oz (wanted_at (g:=1) (b:=true) (t:=116) rfl rfl ((hin 1 116 rfl).trans (congrArg some (show uu 1=.bool true from (hd 1 (by kernel_rfl))))) rfl) (fun _ hK=>wp_eqlE (.tmp 117) (.const (.int .i64 0)) rfl (zj (hin 2 117 rfl) (show uu 2=.int .i64 0 from (hd 2 (by kernel_rfl)))) rfl (r:=true) (by decide) (hK _ _ hJ rfl vsm))
  ·
   exact oz rfl (fun _ hK=>wp_pick (bv:=true) (.tmp 116) (.tmp 118) (.const (.bool false)) rfl (zj (hin 1 116 rfl) (show uu 1=.bool true from (hd 1 (by kernel_rfl)))) (zj (hin 3 118 rfl) (show uu 3=.bool true from (hd 3 (by kernel_rfl)))) rfl (hK _ _ hJ rfl vsm))
  ·
   exact oz rfl (fun _ hK=>wp_move (.tmp 119) rfl (zj (hin 4 119 rfl) (show uu 4=.bool true from (hd 4 (by kernel_rfl)))) (hK _ _ hJ rfl vsm))
  ·
   exact oz (wanted_at (g:=5) (b:=true) (t:=120) rfl rfl ((hin 5 120 rfl).trans (congrArg some (show uu 5=.bool true from (hd 5 (by kernel_rfl))))) rfl) (fun _ hK=>wp_load 32 (.tmp 25) rfl bk3 0 4 #[pw.v,sw.v,.bool cw.b,.slice cw.a cw.n cw.c] #[pw.v,sw.v,.bool cw.b,.slice cw.a cw.n cw.c] 32 (hJ.es.at' _ (zzG (i:=4) rfl)) (zet ((hev 25 (by decide)).trans rfl)) ag32 sz32 (zzF (by kernel_rfl)) (by kernel_rfl) (hK _ _ hJ rfl vsm))
  ·
   refine oz (wanted_at (g:=5) (b:=true) (t:=120) rfl rfl ((hin 5 120 rfl).trans (congrArg some (show uu 5=.bool true from (hd 5 (by kernel_rfl))))) rfl) (fun _ hK=>zcz (.func 11) #[.tmp 121] #[32] 11 #[] #[.agg #[pw.v,sw.v,.bool cw.b,.slice cw.a cw.n cw.c]] _ rfl rfl (map1 (zj (hin 6 121 rfl) (show uu 6=.agg #[pw.v,sw.v,.bool cw.b,.slice cw.a cw.n cw.c] from (hd 6 (by kernel_rfl))))) rfl (fun _ _=>rfl) (tWhole hJ.nx pw sw cw (e:=60) (hJ.get 2 (f:=Mt k (fun _=>k) (mir c R) pw) rfl) (hJ.get 1 (f:=Ls k (wq k r (mir c R) (xl kx x) (xl kl xl_)) sw) rfl) (hJ.get 0 (f:=cw.is) rfl) ez_cw BK6 BW6 BC6 (by omega) (by omega)) ?_)
   rintro zz ww2 ⟨rfl,hB⟩
   exact ⟨_,rfl,hK _ _ (hJ.later hB) rfl (vlat hB)⟩
  ·
   exact oz (wanted_at (g:=5) (b:=true) (t:=120) rfl rfl ((hin 5 120 rfl).trans (congrArg some (show uu 5=.bool true from (hd 5 (by kernel_rfl))))) rfl) (fun _ hK=>wp_load 45 (.tmp 13) rfl bk2 0 4 #[pfd.v,sfd.v,.bool cfd.b,.slice cfd.a cfd.n cfd.c] #[pfd.v,sfd.v,.bool cfd.b,.slice cfd.a cfd.n cfd.c] 45 (hJ.es.at' _ (zzG (i:=5) rfl)) (zet ((hev 13 (by decide)).trans rfl)) ag45 sz45 (zzF (by kernel_rfl)) (by kernel_rfl) (hK _ _ hJ rfl vsm))
  ·
   exact oz (wanted_at (g:=5) (b:=true) (t:=120) rfl rfl ((hin 5 120 rfl).trans (congrArg some (show uu 5=.bool true from (hd 5 (by kernel_rfl))))) rfl) (fun _ hK=>wp_move (.tmp 24) rfl (zet ((hev 24 (by decide)).trans rfl)) (hK _ _ hJ rfl vsm))
  ·
   refine oz (wanted_at (g:=5) (b:=true) (t:=120) rfl rfl ((hin 5 120 rfl).trans (congrArg some (show uu 5=.bool true from (hd 5 (by kernel_rfl))))) rfl) (fun _ hK=>zcz (.func 29) #[.tmp 123,.tmp 124] #[45,40] 29 #[] #[.agg #[pfd.v,sfd.v,.bool cfd.b,.slice cfd.a cfd.n cfd.c],d2.v] _ rfl rfl (map2 (zj (hin 8 123 rfl) (show uu 8=.agg #[pfd.v,sfd.v,.bool cfd.b,.slice cfd.a cfd.n cfd.c] from (hd 8 (by kernel_rfl)))) (zj (hin 9 124 rfl) (show uu 9=d2.v from (hd 9 (by kernel_rfl))))) rfl (fun _ _=>rfl) (dWith8 hJ.nx pfd sfd d2 cfd (k:=k) (r:=r) (e:=2) (hJ.get 7 (f:=Mr (k+r) (fun _=>k+r) (mir c R) pfd) rfl) (hJ.get 6 (f:=Lr (k+r) (xl kx x) sfd) rfl) (hJ.get 5 (f:=cfd.ir) rfl) ez_cfd (hJ.get 3 (f:=Lr r (xl kl xl_) d2) rfl) BPm BQm BCm (fun (i:Nat) _=>BXm i) (by omega) (by omega)) ?_)
   rintro zz ww2 ⟨pwd,swd,cwd,rfl,hi_pwd,hi_swd,ez_cwd,hi_cwd,hB⟩
   exact ⟨_,rfl,hK _ _ (hJ.later hB) ⟨pwd,swd,cwd,rfl,hi_pwd,hi_swd,ez_cwd,hi_cwd⟩ (vlat hB)⟩
  ·
   obtain ⟨pwd,swd,cwd,e10,hi_pwd,hi_swd,ez_cwd,hi_cwd⟩:=(show (vuxr k (mir c R) (wq k r (mir c R) (xl kx x) (xl kl xl_)) (wc k r (mir c R) (xl kx x) cc (xl kl xl_))) (uu 10) XR16 ww from (hd 10 (by kernel_rfl)))
   replace hJ:=hJ.more (f:=Mr k (fun _=>k) (mir c R) pwd) (Mr.stb _ _ _ _) hi_pwd
   replace hJ:=hJ.more (f:=Lr k (wq k r (mir c R) (xl kx x) (xl kl xl_)) swd) (Lr.stb _ _ _) hi_swd
   replace hJ:=hJ.more (f:=cwd.ir) cwd.stbr hi_cwd
   refine oz (wanted_at (g:=5) (b:=true) (t:=120) rfl rfl ((hin 5 120 rfl).trans (congrArg some (show uu 5=.bool true from (hd 5 (by kernel_rfl))))) rfl) (fun _ hK=>zcz (.func 12) #[.tmp 125] #[45] 12 #[] #[.agg #[pwd.v,swd.v,.bool cwd.b,.slice cwd.a cwd.n cwd.c]] _ rfl rfl (map1 (zj (hin 10 125 rfl) e10)) rfl (fun _ _=>rfl) (tWholes hJ.nx pwd swd cwd (e:=60) (hJ.get 2 (f:=Mr k (fun _=>k) (mir c R) pwd) rfl) (hJ.get 1 (f:=Lr k (wq k r (mir c R) (xl kx x) (xl kl xl_)) swd) rfl) (hJ.get 0 (f:=cwd.ir) rfl) ez_cwd BK6 BW6 BC6 (by omega) (by omega)) ?_)
   rintro zz ww2 ⟨rfl,hB⟩
   exact ⟨_,rfl,hK _ _ ((hJ.only [cw.is,Ls k (wq k r (mir c R) (xl kx x) (xl kl xl_)) sw,Mt k (fun _=>k) (mir c R) pw,Lr r (xl kl xl_) d2,Ls r (xl kl xl_) s2,cfd.ir,Lr (k+r) (xl kx x) sfd,Mr (k+r) (fun _=>k+r) (mir c R) pfd,cf.is,Ls (k+r) (xl kx x) sf,Mt (k+r) (fun _=>k+r) (mir c R) pf,Mi m c R ra,Li kx x qa,Li kl xl_ la] (by simp)).later hB) rfl (vlat hB)⟩
  ·
   exact oz (wanted_at (g:=5) (b:=true) (t:=120) rfl rfl ((hin 5 120 rfl).trans (congrArg some (show uu 5=.bool true from (hd 5 (by kernel_rfl))))) rfl) (fun _ hK=>wp_seql (.tmp 122) (.tmp 126) 9 9 rfl rfl (zj (hin 7 122 rfl) (show uu 7=.string ⟨(whU k (mir c R) (wq k r (mir c R) (xl kx x) (xl kl xl_)) (wc k r (mir c R) (xl kx x) cc (xl kl xl_))).toArray⟩ from (hd 7 (by kernel_rfl)))) (zj (hin 11 126 rfl) (show uu 11=.string ⟨(whU k (mir c R) (wq k r (mir c R) (xl kx x) (xl kl xl_)) (wc k r (mir c R) (xl kx x) cc (xl kl xl_))).toArray⟩ from (hd 11 (by kernel_rfl)))) (r:=true) (decide_eq_true rfl) (hK _ _ hJ rfl vsm))
  ·
   exact oz rfl (fun _ hK=>wp_pick (bv:=true) (.tmp 120) (.tmp 127) (.const (.bool false)) rfl (zj (hin 5 120 rfl) (show uu 5=.bool true from (hd 5 (by kernel_rfl)))) (zj (hin 12 127 rfl) (show uu 12=.bool true from (hd 12 (by kernel_rfl)))) rfl (hK _ _ hJ rfl vsm))
  ·
   exact oz rfl (fun _ hK=>wp_move (.tmp 128) rfl (zj (hin 13 128 rfl) (show uu 13=.bool true from (hd 13 (by kernel_rfl)))) (hK _ _ hJ rfl vsm))
  ·
   exact oz (wanted_at (g:=14) (b:=true) (t:=129) rfl rfl ((hin 14 129 rfl).trans (congrArg some (show uu 14=.bool true from (hd 14 (by kernel_rfl))))) rfl) (fun _ hK=>wp_move (.tmp 29) rfl (zet ((hev 29 (by decide)).trans rfl)) (hK _ _ hJ rfl vsm))
  ·
   exact oz (wanted_at (g:=14) (b:=true) (t:=129) rfl rfl ((hin 14 129 rfl).trans (congrArg some (show uu 14=.bool true from (hd 14 (by kernel_rfl))))) rfl) (fun _ hK=>wp_eqlE (.tmp 130) (.const (.int .i64 80)) rfl (zj (hin 15 130 rfl) (show uu 15=.int .i64 80 from (hd 15 (by kernel_rfl)))) rfl (r:=true) (by decide) (hK _ _ hJ rfl vsm))
  ·
   exact oz rfl (fun _ hK=>wp_pick (bv:=true) (.tmp 129) (.tmp 131) (.const (.bool false)) rfl (zj (hin 14 129 rfl) (show uu 14=.bool true from (hd 14 (by kernel_rfl)))) (zj (hin 16 131 rfl) (show uu 16=.bool true from (hd 16 (by kernel_rfl)))) rfl (hK _ _ hJ rfl vsm))
  ·
   exact oz rfl (fun _ hK=>wp_move (.tmp 132) rfl (zj (hin 17 132 rfl) (show uu 17=.bool true from (hd 17 (by kernel_rfl)))) (hK _ _ hJ rfl vsm))
  ·
   exact oz (wanted_at (g:=18) (b:=true) (t:=133) rfl rfl ((hin 18 133 rfl).trans (congrArg some (show uu 18=.bool true from (hd 18 (by kernel_rfl))))) rfl) (fun _ hK=>wp_fda (v:=.pointer (some ⟨bk4,0,none⟩)) 32 (.tmp 27) 0 rfl (zet ((hev 27 (by decide)).trans rfl)) (fun _=>by kernel_rfl) (hK _ _ hJ rfl vsm))
  ·
   exact oz (wanted_at (g:=18) (b:=true) (t:=133) rfl rfl ((hin 18 133 rfl).trans (congrArg some (show uu 18=.bool true from (hd 18 (by kernel_rfl))))) rfl) (fun _ hK=>wp_load1 (v:=.slice none 0 0) 26 (.tmp 134) rfl bk4 0 #[.slice none 0 0,.slice none 0 0,.bool false,.slice none 0 0] 32 (hJ.es.at' _ (zzG (i:=3) rfl)) (zj (hin 19 134 rfl) (show uu 19=.pointer (some ⟨bk4,0,none⟩) from (hd 19 (by kernel_rfl)))) ag26 (by kernel_rfl) (hK _ _ hJ rfl vsm))
  ·
   exact oz (wanted_at (g:=18) (b:=true) (t:=133) rfl rfl ((hin 18 133 rfl).trans (congrArg some (show uu 18=.bool true from (hd 18 (by kernel_rfl))))) rfl) (fun _ hK=>wp_lenq (.tmp 135) 26 27 slz rfl (by kernel_rfl) (zj (hin 20 135 rfl) (show uu 20=.slice none 0 0 from (hd 20 (by kernel_rfl)))) (n:=0) rfl (hK _ _ hJ rfl vsm))
  ·
   exact oz (wanted_at (g:=18) (b:=true) (t:=133) rfl rfl ((hin 18 133 rfl).trans (congrArg some (show uu 18=.bool true from (hd 18 (by kernel_rfl))))) rfl) (fun _ hK=>wp_eqli (.tmp 136) (.const (.int .i64 0)) 3 3 rfl rfl (zj (hin 21 136 rfl) (show uu 21=.int .i64 (((0:Nat):Int)) from (hd 21 (by kernel_rfl)))) rfl (r:=true) (decide_eq_true rfl) (hK _ _ hJ rfl vsm))
  ·
   exact oz rfl (fun _ hK=>wp_pick (bv:=true) (.tmp 133) (.tmp 137) (.const (.bool false)) rfl (zj (hin 18 133 rfl) (show uu 18=.bool true from (hd 18 (by kernel_rfl)))) (zj (hin 22 137 rfl) (show uu 22=.bool true from (hd 22 (by kernel_rfl)))) rfl (hK _ _ hJ rfl vsm))
 clear hZ35
 intro uu W21 hZ36 hd
 have e_0:uu 0=.bool true:=hd 0 (by decide)
 have e_1:uu 1=.bool true:=hd 1 (by decide)
 have e_2:uu 2=.int .i64 0:=hd 2 (by decide)
 have e_3:uu 3=.bool true:=hd 3 (by decide)
 have e_4:uu 4=.bool true:=hd 4 (by decide)
 have e_5:uu 5=.bool true:=hd 5 (by decide)
 have e_6:uu 6=.agg #[pw.v,sw.v,.bool cw.b,.slice cw.a cw.n cw.c]:=hd 6 (by decide)
 have e_7:uu 7=.string ⟨(whU k (mir c R) (wq k r (mir c R) (xl kx x) (xl kl xl_)) (wc k r (mir c R) (xl kx x) cc (xl kl xl_))).toArray⟩:=hd 7 (by decide)
 have e_8:uu 8=.agg #[pfd.v,sfd.v,.bool cfd.b,.slice cfd.a cfd.n cfd.c]:=hd 8 (by decide)
 have e_9:uu 9=d2.v:=hd 9 (by decide)
 obtain ⟨pwd,swd,cwd,e_10,hi_pwd,hi_swd,ez_cwd,hi_cwd⟩:=(show (vuxr k (mir c R) (wq k r (mir c R) (xl kx x) (xl kl xl_)) (wc k r (mir c R) (xl kx x) cc (xl kl xl_))) (uu 10) XR16 W21 from hd 10 (by decide))
 have e_11:uu 11=.string ⟨(whU k (mir c R) (wq k r (mir c R) (xl kx x) (xl kl xl_)) (wc k r (mir c R) (xl kx x) cc (xl kl xl_))).toArray⟩:=hd 11 (by decide)
 have e_12:uu 12=.bool true:=hd 12 (by decide)
 have e_13:uu 13=.bool true:=hd 13 (by decide)
 have e_14:uu 14=.bool true:=hd 14 (by decide)
 have e_15:uu 15=.int .i64 80:=hd 15 (by decide)
 have e_16:uu 16=.bool true:=hd 16 (by decide)
 have e_17:uu 17=.bool true:=hd 17 (by decide)
 have e_18:uu 18=.bool true:=hd 18 (by decide)
 have e_19:uu 19=.pointer (some ⟨bk4,0,none⟩):=hd 19 (by decide)
 have e_20:uu 20=.slice none 0 0:=hd 20 (by decide)
 have e_21:uu 21=.int .i64 (((0:Nat):Int)):=hd 21 (by decide)
 have e_22:uu 22=.bool true:=hd 22 (by decide)
 have e_23:uu 23=.bool true:=hd 23 (by decide)
 clear hd
 simp only [layS,Act.put,zzC,zzD,zzE,Nat.zero_add,Nat.reduceAdd,List.drop_succ_cons,List.drop_zero,List.drop_nil,e_0,e_1,e_2,e_3,e_4,e_5,e_6,e_7,e_8,e_9,e_10,e_11,e_12,e_13,e_14,e_15,e_16,e_17,e_18,e_19,e_20,e_21,e_22,e_23]
 clear e_0 e_1 e_2 e_3 e_4 e_5 e_6 e_7 e_8 e_9 e_10 e_11 e_12 e_13 e_14 e_15 e_16 e_17 e_18 e_19 e_20 e_21 e_22 e_23
 have hZ37:=hZ36.more (f:=Mr k (fun _=>k) (mir c R) pwd) (Mr.stb _ _ _ _) hi_pwd
 clear hZ36 hi_pwd
 have hZ38:=hZ37.more (f:=Lr k (wq k r (mir c R) (xl kx x) (xl kl xl_)) swd) (Lr.stb _ _ _) hi_swd
 clear hZ37 hi_swd
 have hZ39:=hZ38.more (f:=cwd.ir) cwd.stbr hi_cwd
 clear hZ38 hi_cwd
 go_wp2
 go_ret
 exact ⟨rfl,hZ39.below⟩
end Go.Proofs.YtjclllindbfmhaaGreatDoor
