/- Parts of the proof. -/
import Derived.Test.YtjclllindbfmhaaGreatDoorHj0
import Derived.Test.YtjclllindbfmhaaGreatDoorHj38
import Derived.Test.YtjclllindbfmhaaGreatDoorHj40
import Derived.Test.YtjclllindbfmhaaGreatDoorHj41
import Derived.Test.YtjclllindbfmhaaGreatDoorHj43
import Derived.Test.YtjclllindbfmhaaGreatDoorHj36
set_option linter.unusedSimpArgs false
set_option linter.unusedVariables false
namespace Go.Proofs.YtjclllindbfmhaaGreatDoor
/- The law QuadTells of layer 8, walked. No statement of the seat is proved here. -/
open Go Go.RowKit
open Classical in
set_option maxRecDepth 100000 in
set_option maxHeartbeats 25600000 in
theorem utl2 {X0:Nat→Prop} {w:World} (hX:NX X0 w) (ra qa rb pb la:Sl) (m kx m2 kp kl:Nat) (c c2:Nat→Nat) (R R2:Nat→Nat→Int) (x:Nat→Int) (cc:Int) (xp xl_:Nat→Int) (hra:Mi m c R ra X0 w) (hqa:Li kx x qa X0 w) (hrb:Mi m2 c2 R2 rb X0 w) (hpb:Li kp xp pb X0 w) (hla:Li kl xl_ la X0 w) (rgR0:∀ i j,i < m→j < c i→-9223372036854775808≤R i j∧R i j≤9223372036854775807) (rgx0:∀ i,i < kx→-9223372036854775808≤x i∧x i≤9223372036854775807) (hcc:-9223372036854775808≤cc∧cc≤9223372036854775807) (rgG0:∀ i j,i < m2→j < c2 i→-9223372036854775808≤R2 i j∧R2 i j≤9223372036854775807) (rgp0:∀ i,i < kp→-9223372036854775808≤xp i∧xp i≤9223372036854775807) (rgl0:∀ i,i < kl→-9223372036854775808≤xl_ i∧xl_ i≤9223372036854775807) (n:Nat) (hnm:n≤m) (hmin:(((m:Nat):Int)≤((6:Nat):Int)∧((n:Nat):Int)=((m:Nat):Int))∨(((6:Nat):Int) < ((m:Nat):Int)∧((n:Nat):Int)=((6:Nat):Int))) (hnu:n≤6) (hnm2:n≤m2) (hmin2:(((m2:Nat):Int)≤((6:Nat):Int)∧((n:Nat):Int)=((m2:Nat):Int))∨(((6:Nat):Int) < ((m2:Nat):Int)∧((n:Nat):Int)=((6:Nat):Int))) (hnu2:n≤6):Calls Tryz.prog 4 #[ra.v,qa.v,.int .i64 cc,rb.v,pb.v,la.v] w (PVal (.bool true) w):=by
 have rgR:=Lib.hid rgR0
 clear rgR0
 have rgx:=Lib.hid rgx0
 clear rgx0
 have rgG:=Lib.hid rgG0
 clear rgG0
 have rgp:=Lib.hid rgp0
 clear rgp0
 have rgl:=Lib.hid rgl0
 clear rgl0
 have BPm:∀ i j,i < n→j < n→Sz 2 (mir c R i j):=(fun (i j:Nat) hi hj=>sz_int (mir_in rgR.out (Nat.lt_of_lt_of_le hi hnm) (Nat.lt_of_lt_of_le hj hnm)).1 (mir_in rgR.out (Nat.lt_of_lt_of_le hi hnm) (Nat.lt_of_lt_of_le hj hnm)).2)
 have BQm:∀ i,i < n→Sz 2 (xl kx x i):=fun i _=>xl_in rgx.out i
 have BCm:Sz 2 cc:=sz_int hcc.1 hcc.2
 have BXm:∀ i,Sz 2 (xl kl xl_ i):=fun i=>xl_in rgl.out i
 have BGm:∀ i j,i < n→j < n→Sz 2 (mir c2 R2 i j):=(fun (i j:Nat) hi hj=>sz_int (mir_in rgG.out (Nat.lt_of_lt_of_le hi hnm2) (Nat.lt_of_lt_of_le hj hnm2)).1 (mir_in rgG.out (Nat.lt_of_lt_of_le hi hnm2) (Nat.lt_of_lt_of_le hj hnm2)).2)
 have BUm:∀ i,i < n→Sz 2 (xl kp xp i):=fun i _=>xl_in rgp.out i
 have hZ0:=zs_start hX
 have hZ1:=hZ0.more (f:=Li kl xl_ la) (Li.stb _ _ _) hla
 clear hZ0
 have hZ2:=hZ1.more (f:=Li kp xp pb) (Li.stb _ _ _) hpb
 clear hZ1
 have hZ3:=hZ2.more (f:=Mi m2 c2 R2 rb) (Mi.stb _ _ _ _) hrb
 clear hZ2
 have hZ4:=hZ3.more (f:=Li kx x qa) (Li.stb _ _ _) hqa
 clear hZ3
 have hZ5:=hZ4.more (f:=Mi m c R ra) (Mi.stb _ _ _ _) hra
 clear hZ4
 go_enter Tryz.func4,Tryz.ntmps4
 go_wp2_with fail
 refine (uAwake hZ5.nx).mono ?_
 rintro zz W1 ⟨rfl,hB⟩
 have hZ6:=hZ5.later hB
 clear hB hZ5
 go_wp2_with fail
 refine (uRead hZ6.nx ra qa 6 n (hZ6.get 0 (f:=Mi m c R ra) rfl) (hZ6.get 1 (f:=Li kx x qa) rfl) rgR.out rgx.out hcc (by omega) hnm hmin).mono ?_
 rintro zz W2 ⟨pf,sf,cf,pfd,sfd,cfd,rfl,hi_pf,hi_sf,ez_cf,hi_cf,hi_pfd,hi_sfd,ez_cfd,hi_cfd,hB⟩
 have hZ7:=hZ6.later hB
 clear hB hZ6
 have hZ8:=hZ7.more (f:=Mt n (fun _=>n) (mir c R) pf) (Mt.stb _ _ _ _) hi_pf
 clear hZ7 hi_pf
 have hZ9:=hZ8.more (f:=Ls n (xl kx x) sf) (Ls.stb _ _ _) hi_sf
 clear hZ8 hi_sf
 have hZ10:=hZ9.more (f:=cf.is) cf.stb hi_cf
 clear hZ9 hi_cf
 have hZ11:=hZ10.more (f:=Mr n (fun _=>n) (mir c R) pfd) (Mr.stb _ _ _ _) hi_pfd
 clear hZ10 hi_pfd
 have hZ12:=hZ11.more (f:=Lr n (xl kx x) sfd) (Lr.stb _ _ _) hi_sfd
 clear hZ11 hi_sfd
 have hZ13:=hZ12.more (f:=cfd.ir) cfd.stbr hi_cfd
 clear hZ12 hi_cfd
 go_wp2_with (refine zsa 32 #[.slice none 0 0,.slice none 0 0,.bool false,.slice none 0 0] (.agg #[.slice none 0 0,.slice none 0 0,.bool false,.slice none 0 0]) rfl rfl zv32 rfl hZ13 (fun bk1 X14 W3 hZ14=>?_))
 clear hZ13
 simp only [Stop,Act.put,zzC,zzD,zzE]
 go_wp2_with (refine zsa 45 #[.slice none 0 0,.slice none 0 0,.bool false,.slice none 0 0] (.agg #[.slice none 0 0,.slice none 0 0,.bool false,.slice none 0 0]) rfl rfl zv45 rfl hZ14 (fun bk2 X15 W4 hZ15=>?_))
 clear hZ14
 simp only [Stop,Act.put,zzC,zzD,zzE]
 go_wp2_with (refine zss 32 (.tmp 14) (.tmp 31) 1 bk1 0 #[.slice none 0 0,.slice none 0 0,.bool false,.slice none 0 0] 32 4 [pf.v,sf.v,.bool cf.b,.slice cf.a cf.n cf.c] #[pf.v,sf.v,.bool cf.b,.slice cf.a cf.n cf.c] [(bk2,#[.slice none 0 0,.slice none 0 0,.bool false,.slice none 0 0],45),(bk1,#[pf.v,sf.v,.bool cf.b,.slice cf.a cf.n cf.c],32)] rfl rfl rfl rfl sz32 hZ15 rfl rfl (zzF (by kernel_rfl)) (by kernel_rfl) (by kernel_rfl) (by kernel_rfl) (fun W5 hZ16=>?_))
 clear hZ15
 simp only [Stop,Act.put,zzC,zzD,zzE]
 go_wp2_with (refine zss 45 (.tmp 15) (.tmp 32) 0 bk2 0 #[.slice none 0 0,.slice none 0 0,.bool false,.slice none 0 0] 45 4 [pfd.v,sfd.v,.bool cfd.b,.slice cfd.a cfd.n cfd.c] #[pfd.v,sfd.v,.bool cfd.b,.slice cfd.a cfd.n cfd.c] [(bk2,#[pfd.v,sfd.v,.bool cfd.b,.slice cfd.a cfd.n cfd.c],45),(bk1,#[pf.v,sf.v,.bool cf.b,.slice cf.a cf.n cf.c],32)] rfl rfl rfl rfl sz45 hZ16 rfl rfl (zzF (by kernel_rfl)) (by kernel_rfl) (by kernel_rfl) (by kernel_rfl) (fun W6 hZ17=>?_))
 clear hZ16
 simp only [Stop,Act.put,zzC,zzD,zzE]
 go_wp2_with fail
 refine (uRead hZ17.nx rb pb 6 n (hZ17.get 8 (f:=Mi m2 c2 R2 rb) rfl) (hZ17.get 9 (f:=Li kp xp pb) rfl) rgG.out rgp.out hcc (by omega) hnm2 hmin2).mono ?_
 rintro zz W7 ⟨pg,sg,cg,pgd,sgd,cgd,rfl,hi_pg,hi_sg,ez_cg,hi_cg,hi_pgd,hi_sgd,ez_cgd,hi_cgd,hB⟩
 have hZ18:=hZ17.later hB
 clear hB hZ17
 have hZ19:=hZ18.more (f:=Mt n (fun _=>n) (mir c2 R2) pg) (Mt.stb _ _ _ _) hi_pg
 clear hZ18 hi_pg
 have hZ20:=hZ19.more (f:=Ls n (xl kp xp) sg) (Ls.stb _ _ _) hi_sg
 clear hZ19 hi_sg
 have hZ21:=hZ20.more (f:=cg.is) cg.stb hi_cg
 clear hZ20 hi_cg
 have hZ22:=hZ21.more (f:=Mr n (fun _=>n) (mir c2 R2) pgd) (Mr.stb _ _ _ _) hi_pgd
 clear hZ21 hi_pgd
 have hZ23:=hZ22.more (f:=Lr n (xl kp xp) sgd) (Lr.stb _ _ _) hi_sgd
 clear hZ22 hi_sgd
 have hZ24:=hZ23.more (f:=cgd.ir) cgd.stbr hi_cgd
 clear hZ23 hi_cgd
 go_wp2_with (refine zsa 32 #[.slice none 0 0,.slice none 0 0,.bool false,.slice none 0 0] (.agg #[.slice none 0 0,.slice none 0 0,.bool false,.slice none 0 0]) rfl rfl zv32 rfl hZ24 (fun bk3 X25 W8 hZ25=>?_))
 clear hZ24
 simp only [Stop,Act.put,zzC,zzD,zzE]
 go_wp2_with (refine zsa 45 #[.slice none 0 0,.slice none 0 0,.bool false,.slice none 0 0] (.agg #[.slice none 0 0,.slice none 0 0,.bool false,.slice none 0 0]) rfl rfl zv45 rfl hZ25 (fun bk4 X26 W9 hZ26=>?_))
 clear hZ25
 simp only [Stop,Act.put,zzC,zzD,zzE]
 go_wp2_with (refine zss 32 (.tmp 17) (.tmp 39) 1 bk3 0 #[.slice none 0 0,.slice none 0 0,.bool false,.slice none 0 0] 32 4 [pg.v,sg.v,.bool cg.b,.slice cg.a cg.n cg.c] #[pg.v,sg.v,.bool cg.b,.slice cg.a cg.n cg.c] [(bk4,#[.slice none 0 0,.slice none 0 0,.bool false,.slice none 0 0],45),(bk3,#[pg.v,sg.v,.bool cg.b,.slice cg.a cg.n cg.c],32),(bk2,#[pfd.v,sfd.v,.bool cfd.b,.slice cfd.a cfd.n cfd.c],45),(bk1,#[pf.v,sf.v,.bool cf.b,.slice cf.a cf.n cf.c],32)] rfl rfl rfl rfl sz32 hZ26 rfl rfl (zzF (by kernel_rfl)) (by kernel_rfl) (by kernel_rfl) (by kernel_rfl) (fun W10 hZ27=>?_))
 clear hZ26
 simp only [Stop,Act.put,zzC,zzD,zzE]
 go_wp2_with (refine zss 45 (.tmp 18) (.tmp 40) 0 bk4 0 #[.slice none 0 0,.slice none 0 0,.bool false,.slice none 0 0] 45 4 [pgd.v,sgd.v,.bool cgd.b,.slice cgd.a cgd.n cgd.c] #[pgd.v,sgd.v,.bool cgd.b,.slice cgd.a cgd.n cgd.c] [(bk4,#[pgd.v,sgd.v,.bool cgd.b,.slice cgd.a cgd.n cgd.c],45),(bk3,#[pg.v,sg.v,.bool cg.b,.slice cg.a cg.n cg.c],32),(bk2,#[pfd.v,sfd.v,.bool cfd.b,.slice cfd.a cfd.n cfd.c],45),(bk1,#[pf.v,sf.v,.bool cf.b,.slice cf.a cf.n cf.c],32)] rfl rfl rfl rfl sz45 hZ27 rfl rfl (zzF (by kernel_rfl)) (by kernel_rfl) (by kernel_rfl) (by kernel_rfl) (fun W11 hZ28=>?_))
 clear hZ27
 simp only [Stop,Act.put,zzC,zzD,zzE]
 go_wp2_with (refine zsw (by kernel_rfl) (fun K hK=>wp_fda (v:=.pointer (some ⟨bk1,0,none⟩)) 32 (.tmp 14) 0 rfl rfl (fun _=>by kernel_rfl) (hK _ _ ?_)))
 simp only [Stop,Act.put,zzC,zzD,zzE]
 go_wp2_with (refine zsw (by kernel_rfl) (fun K hK=>wp_load1 (v:=pf.v) 26 (.tmp 49) rfl bk1 0 #[pf.v,sf.v,.bool cf.b,.slice cf.a cf.n cf.c] 32 (hZ28.es.at' _ (zzG (i:=3) rfl)) rfl ag26 (by kernel_rfl) (hK _ _ ?_)))
 simp only [Stop,Act.put,zzC,zzD,zzE]
 go_wp2_with (refine zsw (by kernel_rfl) (fun K hK=>wp_lenq (.tmp 50) 26 27 pf rfl (by kernel_rfl) rfl (hZ28.get 11 (f:=Mt n (fun _=>n) (mir c R) pf) rfl).n (hK _ _ ?_)))
 simp only [Stop,Act.put,zzC,zzD,zzE]
 go_wp2_with (refine zsw (by kernel_rfl) (fun K hK=>wp_fda (v:=.pointer (some ⟨bk3,0,none⟩)) 32 (.tmp 17) 0 rfl rfl (fun _=>by kernel_rfl) (hK _ _ ?_)))
 simp only [Stop,Act.put,zzC,zzD,zzE]
 go_wp2_with (refine zsw (by kernel_rfl) (fun K hK=>wp_load1 (v:=pg.v) 26 (.tmp 52) rfl bk3 0 #[pg.v,sg.v,.bool cg.b,.slice cg.a cg.n cg.c] 32 (hZ28.es.at' _ (zzG (i:=1) rfl)) rfl ag26 (by kernel_rfl) (hK _ _ ?_)))
 simp only [Stop,Act.put,zzC,zzD,zzE]
 go_wp2_with (refine zsw (by kernel_rfl) (fun K hK=>wp_lenq (.tmp 53) 26 27 pg rfl (by kernel_rfl) rfl (hZ28.get 5 (f:=Mt n (fun _=>n) (mir c2 R2) pg) rfl).n (hK _ _ ?_)))
 simp only [Stop,Act.put,zzC,zzD,zzE]
 go_wp2_with (refine zsw (by kernel_rfl) (fun K hK=>wp_neqi (.tmp 51) (.tmp 54) 3 3 rfl rfl rfl rfl (r:=false) (decide_eq_false (by simp)) (hK _ _ ?_)))
 simp only [Stop,Act.put,zzC,zzD,zzE]
 go_wp2_with (refine zso rfl (fun K hK=>wp_fda (v:=.pointer (some ⟨bk1,0,none⟩)) 32 (.tmp 14) 0 rfl rfl (fun _=>by kernel_rfl) (hK _ _ ?_)))
 simp only [Stop,Act.put,zzC,zzD,zzE]
 go_wp2_with (refine zso rfl (fun K hK=>wp_load1 (v:=pf.v) 26 (.tmp 60) rfl bk1 0 #[pf.v,sf.v,.bool cf.b,.slice cf.a cf.n cf.c] 32 (hZ28.es.at' _ (zzG (i:=3) rfl)) rfl ag26 (by kernel_rfl) (hK _ _ ?_)))
 simp only [Stop,Act.put,zzC,zzD,zzE]
 go_wp2_with (refine zso rfl (fun K hK=>wp_lenq (.tmp 61) 26 27 pf rfl (by kernel_rfl) rfl (hZ28.get 11 (f:=Mt n (fun _=>n) (mir c R) pf) rfl).n (hK _ _ ?_)))
 simp only [Stop,Act.put,zzC,zzD,zzE]
 go_wp2_with fail
 refine (uList hZ28.nx la n (hZ28.get 16 (f:=Li kl xl_ la) rfl) (by omega) rgl.out).mono ?_
 rintro zz W12 ⟨sx,sxd,rfl,hi_sx,hi_sxd,hB⟩
 have hZ29:=hZ28.later hB
 clear hB hZ28
 have hZ30:=hZ29.more (f:=Ls n (xl kl xl_) sx) (Ls.stb _ _ _) hi_sx
 clear hZ29 hi_sx
 have hZ31:=hZ30.more (f:=Lr n (xl kl xl_) sxd) (Lr.stb _ _ _) hi_sxd
 clear hZ30 hi_sxd
 go_wp2_with (refine zso rfl (fun K hK=>wp_load 32 (.tmp 14) rfl bk1 0 4 #[pf.v,sf.v,.bool cf.b,.slice cf.a cf.n cf.c] #[pf.v,sf.v,.bool cf.b,.slice cf.a cf.n cf.c] 32 (hZ31.es.at' _ (zzG (i:=3) rfl)) rfl ag32 sz32 (zzF (by kernel_rfl)) (by kernel_rfl) (hK _ _ ?_)))
 simp only [Stop,Act.put,zzC,zzD,zzE]
 go_wp2_with fail
 refine (uValue hZ31.nx pf sf cf (e:=2) sx (hZ31.get 13 (f:=Mt n (fun _=>n) (mir c R) pf) rfl) (hZ31.get 12 (f:=Ls n (xl kx x) sf) rfl) (hZ31.get 11 (f:=cf.is) rfl) ez_cf (hZ31.get 1 (f:=Ls n (xl kl xl_) sx) rfl) BPm BQm BCm (fun i _=>BXm i) (by omega) (by omega)).mono ?_
 rintro zz W13 ⟨q1,rfl,ez_q1,hi_q1,hB⟩
 have hZ32:=hZ31.later hB
 clear hB hZ31
 have hZ33:=hZ32.more (f:=q1.is) q1.stb hi_q1
 clear hZ32 hi_q1
 go_wp2_with fail
 refine ((zStr (hZ33.get 0 (f:=q1.is) rfl) ez_q1 (vq_sz (e:=2) BPm BQm BCm (fun i _=>BXm i)) (by first | omega | exact Nat.le_trans (dtb_le (by omega) (by omega)) (by omega))).mono (fun _ _ h=>ptxt_dec h)).mono ?_
 rintro zz W14 ⟨rfl,hB⟩
 have hZ34:=hZ33.later hB
 clear hB hZ33
 go_wp2_with (refine zso rfl (fun K hK=>wp_load 32 (.tmp 14) rfl bk1 0 4 #[pf.v,sf.v,.bool cf.b,.slice cf.a cf.n cf.c] #[pf.v,sf.v,.bool cf.b,.slice cf.a cf.n cf.c] 32 (hZ34.es.at' _ (zzG (i:=3) rfl)) rfl ag32 sz32 (zzF (by kernel_rfl)) (by kernel_rfl) (hK _ _ ?_)))
 simp only [Stop,Act.put,zzC,zzD,zzE]
 go_wp2_with fail
 refine (uSlope hZ34.nx pf sf cf (e:=2) sx (hZ34.get 14 (f:=Mt n (fun _=>n) (mir c R) pf) rfl) (hZ34.get 13 (f:=Ls n (xl kx x) sf) rfl) (hZ34.get 12 (f:=cf.is) rfl) ez_cf (hZ34.get 2 (f:=Ls n (xl kl xl_) sx) rfl) BPm BQm BCm (fun i _=>BXm i) (by omega) (by omega)).mono ?_
 rintro zz W15 ⟨sl,rfl,hi_sl,hB⟩
 have hZ35:=hZ34.later hB
 clear hB hZ34
 have hZ36:=hZ35.more (f:=Ls n (fun i=>M.mulv n (mir c R) (xl kl xl_) i - (xl kx x) i) sl) (Ls.stb _ _ _) hi_sl
 clear hZ35 hi_sl
 go_wp2_with fail
 refine (tText hZ36.nx sl (hZ36.get 0 (f:=Ls n (fun i=>M.mulv n (mir c R) (xl kl xl_) i - (xl kx x) i) sl) rfl) (fun (i:Nat) (hi:i < n)=>Sz.subm (sm_sz (fun (t:Nat) (ht:t < n)=>Sz.mul (BPm i t hi ht) (BXm t))) (BQm i hi)) (by omega) (by omega)).mono ?_
 rintro zz W16 ⟨rfl,hB⟩
 have hZ37:=hZ36.later hB
 clear hB hZ36
 go_wp2_with (refine zso rfl (fun K hK=>wp_load 32 (.tmp 14) rfl bk1 0 4 #[pf.v,sf.v,.bool cf.b,.slice cf.a cf.n cf.c] #[pf.v,sf.v,.bool cf.b,.slice cf.a cf.n cf.c] 32 (hZ37.es.at' _ (zzG (i:=3) rfl)) rfl ag32 sz32 (zzF (by kernel_rfl)) (by kernel_rfl) (hK _ _ ?_)))
 simp only [Stop,Act.put,zzC,zzD,zzE]
 go_wp2_with (refine zso rfl (fun K hK=>wp_load 32 (.tmp 17) rfl bk3 0 4 #[pg.v,sg.v,.bool cg.b,.slice cg.a cg.n cg.c] #[pg.v,sg.v,.bool cg.b,.slice cg.a cg.n cg.c] 32 (hZ37.es.at' _ (zzG (i:=1) rfl)) rfl ag32 sz32 (zzF (by kernel_rfl)) (by kernel_rfl) (hK _ _ ?_)))
 simp only [Stop,Act.put,zzC,zzD,zzE]
 go_wp2_with fail
 refine (uAdd hZ37.nx pf sf cf pg sg cg (e:=2) (hZ37.get 15 (f:=Mt n (fun _=>n) (mir c R) pf) rfl) (hZ37.get 14 (f:=Ls n (xl kx x) sf) rfl) (hZ37.get 13 (f:=cf.is) rfl) ez_cf (hZ37.get 9 (f:=Mt n (fun _=>n) (mir c2 R2) pg) rfl) (hZ37.get 8 (f:=Ls n (xl kp xp) sg) rfl) (hZ37.get 7 (f:=cg.is) rfl) ez_cg BPm BQm BCm BGm BUm BCm (by omega) (by omega)).mono ?_
 rintro zz W17 ⟨pa,sa,ca,rfl,hi_pa,hi_sa,ez_ca,hi_ca,hB⟩
 have hZ38:=hZ37.later hB
 clear hB hZ37
 have hZ39:=hZ38.more (f:=Mt n (fun _=>n) (fun i j=>(mir c R) i j+(mir c2 R2) i j) pa) (Mt.stb _ _ _ _) hi_pa
 clear hZ38 hi_pa
 have hZ40:=hZ39.more (f:=Ls n (fun i=>(xl kx x) i+(xl kp xp) i) sa) (Ls.stb _ _ _) hi_sa
 clear hZ39 hi_sa
 have hZ41:=hZ40.more (f:=ca.is) ca.stb hi_ca
 clear hZ40 hi_ca
 go_wp2_with fail
 refine (tWhole hZ41.nx pa sa ca (e:=3) (hZ41.get 2 (f:=Mt n (fun _=>n) (fun i j=>(mir c R) i j+(mir c2 R2) i j) pa) rfl) (hZ41.get 1 (f:=Ls n (fun i=>(xl kx x) i+(xl kp xp) i) sa) rfl) (hZ41.get 0 (f:=ca.is) rfl) ez_ca (fun (i j:Nat) hi hj=>Sz.plus (BPm i j hi hj) (BGm i j hi hj)) (fun (i:Nat) hi=>Sz.plus (BQm i hi) (BUm i hi)) (Sz.plus BCm BCm) (by omega) (by omega)).mono ?_
 rintro zz W18 ⟨rfl,hB⟩
 have hZ42:=hZ41.later hB
 clear hB hZ41
 go_wp2_with (refine zsw (by kernel_rfl) (fun K hK=>wp_load 45 (.tmp 15) rfl bk2 0 4 #[pfd.v,sfd.v,.bool cfd.b,.slice cfd.a cfd.n cfd.c] #[pfd.v,sfd.v,.bool cfd.b,.slice cfd.a cfd.n cfd.c] 45 (hZ42.es.at' _ (zzG (i:=2) rfl)) rfl ag45 sz45 (zzF (by kernel_rfl)) (by kernel_rfl) (hK _ _ ?_)))
 simp only [Stop,Act.put,zzC,zzD,zzE]
 go_wp2_with fail
 refine (dValue8 hZ42.nx pfd sfd cfd (e:=2) sxd (hZ42.get 15 (f:=Mr n (fun _=>n) (mir c R) pfd) rfl) (hZ42.get 14 (f:=Lr n (xl kx x) sfd) rfl) (hZ42.get 13 (f:=cfd.ir) rfl) ez_cfd (hZ42.get 5 (f:=Lr n (xl kl xl_) sxd) rfl) BPm BQm BCm (fun i _=>BXm i) (by omega) (by omega)).mono ?_
 rintro zz W19 ⟨vd,rfl,ez_vd,hi_vd,hB⟩
 have hZ43:=hZ42.later hB
 clear hB hZ42
 have hZ44:=hZ43.more (f:=vd.ir) vd.stbr hi_vd
 clear hZ43 hi_vd
 go_wp2_with fail
 refine ((zStrr (hZ44.get 0 (f:=vd.ir) rfl) ez_vd (vq_sz (e:=2) BPm BQm BCm (fun i _=>BXm i)) (by first | omega | exact Nat.le_trans (dtb_le (by omega) (by omega)) (by omega))).mono (fun _ _ h=>ptxt_dec h)).mono ?_
 rintro zz W20 ⟨rfl,hB⟩
 have hZ45:=hZ44.later hB
 clear hB hZ44
 go_wp2_with (refine zsw (by kernel_rfl) (fun K hK=>wp_seql (.tmp 80) (.tmp 84) 9 9 rfl rfl rfl rfl (r:=true) (decide_eq_true rfl) (hK _ _ ?_)))
 simp only [Stop,Act.put,zzC,zzD,zzE]
 go_wp2_with (refine zsw (by kernel_rfl) (fun K hK=>wp_load 45 (.tmp 15) rfl bk2 0 4 #[pfd.v,sfd.v,.bool cfd.b,.slice cfd.a cfd.n cfd.c] #[pfd.v,sfd.v,.bool cfd.b,.slice cfd.a cfd.n cfd.c] 45 (hZ45.es.at' _ (zzG (i:=2) rfl)) rfl ag45 sz45 (zzF (by kernel_rfl)) (by kernel_rfl) (hK _ _ ?_)))
 simp only [Stop,Act.put,zzC,zzD,zzE]
 go_wp2_with fail
 refine (dSlope8 hZ45.nx pfd sfd cfd (e:=2) sxd (hZ45.get 16 (f:=Mr n (fun _=>n) (mir c R) pfd) rfl) (hZ45.get 15 (f:=Lr n (xl kx x) sfd) rfl) (hZ45.get 14 (f:=cfd.ir) rfl) ez_cfd (hZ45.get 6 (f:=Lr n (xl kl xl_) sxd) rfl) BPm BQm BCm (fun i _=>BXm i) (by omega) (by omega)).mono ?_
 rintro zz W21 ⟨sld,rfl,hi_sld,hB⟩
 have hZ46:=hZ45.later hB
 clear hB hZ45
 have hZ47:=hZ46.more (f:=Lr n (fun i=>M.mulv n (mir c R) (xl kl xl_) i - (xl kx x) i) sld) (Lr.stb _ _ _) hi_sld
 clear hZ46 hi_sld
 go_wp2_with fail
 refine (tTexts hZ47.nx sld (hZ47.get 0 (f:=Lr n (fun i=>M.mulv n (mir c R) (xl kl xl_) i - (xl kx x) i) sld) rfl) (fun (i:Nat) (hi:i < n)=>Sz.subm (sm_sz (fun (t:Nat) (ht:t < n)=>Sz.mul (BPm i t hi ht) (BXm t))) (BQm i hi)) (by omega) (by omega)).mono ?_
 rintro zz W22 ⟨rfl,hB⟩
 have hZ48:=hZ47.later hB
 clear hB hZ47
 go_wp2_with (refine zsw (by kernel_rfl) (fun K hK=>wp_seql (.tmp 88) (.tmp 92) 9 9 rfl rfl rfl rfl (r:=true) (decide_eq_true rfl) (hK _ _ ?_)))
 simp only [Stop,Act.put,zzC,zzD,zzE]
 go_wp2_with (refine zsw (by kernel_rfl) (fun K hK=>wp_load 45 (.tmp 15) rfl bk2 0 4 #[pfd.v,sfd.v,.bool cfd.b,.slice cfd.a cfd.n cfd.c] #[pfd.v,sfd.v,.bool cfd.b,.slice cfd.a cfd.n cfd.c] 45 (hZ48.es.at' _ (zzG (i:=2) rfl)) rfl ag45 sz45 (zzF (by kernel_rfl)) (by kernel_rfl) (hK _ _ ?_)))
 simp only [Stop,Act.put,zzC,zzD,zzE]
 go_wp2_with (refine zsw (by kernel_rfl) (fun K hK=>wp_load 45 (.tmp 18) rfl bk4 0 4 #[pgd.v,sgd.v,.bool cgd.b,.slice cgd.a cgd.n cgd.c] #[pgd.v,sgd.v,.bool cgd.b,.slice cgd.a cgd.n cgd.c] 45 (hZ48.es.at' _ (zzG (i:=0) rfl)) rfl ag45 sz45 (zzF (by kernel_rfl)) (by kernel_rfl) (hK _ _ ?_)))
 simp only [Stop,Act.put,zzC,zzD,zzE]
 go_wp2_with fail
 refine (dAdd8 hZ48.nx pfd sfd cfd pgd sgd cgd (e:=2) (hZ48.get 17 (f:=Mr n (fun _=>n) (mir c R) pfd) rfl) (hZ48.get 16 (f:=Lr n (xl kx x) sfd) rfl) (hZ48.get 15 (f:=cfd.ir) rfl) ez_cfd (hZ48.get 11 (f:=Mr n (fun _=>n) (mir c2 R2) pgd) rfl) (hZ48.get 10 (f:=Lr n (xl kp xp) sgd) rfl) (hZ48.get 9 (f:=cgd.ir) rfl) ez_cgd BPm BQm BCm BGm BUm BCm (by omega) (by omega)).mono ?_
 rintro zz W23 ⟨pad,sad,cad,rfl,hi_pad,hi_sad,ez_cad,hi_cad,hB⟩
 have hZ49:=hZ48.later hB
 clear hB hZ48
 have hZ50:=hZ49.more (f:=Mr n (fun _=>n) (fun i j=>(mir c R) i j+(mir c2 R2) i j) pad) (Mr.stb _ _ _ _) hi_pad
 clear hZ49 hi_pad
 have hZ51:=hZ50.more (f:=Lr n (fun i=>(xl kx x) i+(xl kp xp) i) sad) (Lr.stb _ _ _) hi_sad
 clear hZ50 hi_sad
 have hZ52:=hZ51.more (f:=cad.ir) cad.stbr hi_cad
 clear hZ51 hi_cad
 go_wp2_with fail
 refine (tWholes hZ52.nx pad sad cad (e:=3) (hZ52.get 2 (f:=Mr n (fun _=>n) (fun i j=>(mir c R) i j+(mir c2 R2) i j) pad) rfl) (hZ52.get 1 (f:=Lr n (fun i=>(xl kx x) i+(xl kp xp) i) sad) rfl) (hZ52.get 0 (f:=cad.ir) rfl) ez_cad (fun (i j:Nat) hi hj=>Sz.plus (BPm i j hi hj) (BGm i j hi hj)) (fun (i:Nat) hi=>Sz.plus (BQm i hi) (BUm i hi)) (Sz.plus BCm BCm) (by omega) (by omega)).mono ?_
 rintro zz W24 ⟨rfl,hB⟩
 have hZ53:=hZ52.later hB
 clear hB hZ52
 go_wp2_with (refine zsw (by kernel_rfl) (fun K hK=>wp_seql (.tmp 96) (.tmp 100) 9 9 rfl rfl rfl rfl (r:=true) (decide_eq_true rfl) (hK _ _ ?_)))
 simp only [Stop,Act.put,zzC,zzD,zzE]
 go_wp2
 go_ret
 exact ⟨rfl,hZ53.below⟩
open Classical in
theorem utlAny {X0:Nat→Prop} {w:World} (hX:NX X0 w) (ra qa rb pb la:Sl) (m kx m2 kp kl:Nat) (c c2:Nat→Nat) (R R2:Nat→Nat→Int) (x:Nat→Int) (cc:Int) (xp xl_:Nat→Int) (hra:Mi m c R ra X0 w) (hqa:Li kx x qa X0 w) (hrb:Mi m2 c2 R2 rb X0 w) (hpb:Li kp xp pb X0 w) (hla:Li kl xl_ la X0 w) (rgR0:∀ i j,i < m→j < c i→-9223372036854775808≤R i j∧R i j≤9223372036854775807) (rgx0:∀ i,i < kx→-9223372036854775808≤x i∧x i≤9223372036854775807) (hcc:-9223372036854775808≤cc∧cc≤9223372036854775807) (rgG0:∀ i j,i < m2→j < c2 i→-9223372036854775808≤R2 i j∧R2 i j≤9223372036854775807) (rgp0:∀ i,i < kp→-9223372036854775808≤xp i∧xp i≤9223372036854775807) (rgl0:∀ i,i < kl→-9223372036854775808≤xl_ i∧xl_ i≤9223372036854775807):Calls Tryz.prog 4 #[ra.v,qa.v,.int .i64 cc,rb.v,pb.v,la.v] w (PVal (.bool true) w):=by
 obtain ⟨n,hnm,hmin,hnu⟩:∃ n:Nat,n≤m∧((((m:Nat):Int)≤((6:Nat):Int)∧((n:Nat):Int)=((m:Nat):Int))∨(((6:Nat):Int) < ((m:Nat):Int)∧((n:Nat):Int)=((6:Nat):Int)))∧n≤6:=by
  by_cases h:m≤6
  ·
   exact ⟨m,Nat.le_refl _,.inl ⟨by omega,rfl⟩,h⟩
  ·
   exact ⟨6,by omega,.inr ⟨by omega,rfl⟩,Nat.le_refl _⟩
 obtain ⟨n2,hnm2,hmin2,hnu2⟩:∃ n:Nat,n≤m2∧((((m2:Nat):Int)≤((6:Nat):Int)∧((n:Nat):Int)=((m2:Nat):Int))∨(((6:Nat):Int) < ((m2:Nat):Int)∧((n:Nat):Int)=((6:Nat):Int)))∧n≤6:=by
  by_cases h:m2≤6
  ·
   exact ⟨m2,Nat.le_refl _,.inl ⟨by omega,rfl⟩,h⟩
  ·
   exact ⟨6,by omega,.inr ⟨by omega,rfl⟩,Nat.le_refl _⟩
 by_cases hne:n=n2
 ·
  subst hne
  exact utl2 hX ra qa rb pb la m kx m2 kp kl c c2 R R2 x cc xp xl_ hra hqa hrb hpb hla rgR0 rgx0 hcc rgG0 rgp0 rgl0 n hnm hmin hnu hnm2 hmin2 hnu2
 ·
  exact utl1 hX ra qa rb pb la m kx m2 kp kl c c2 R R2 x cc xp xl_ hra hqa hrb hpb hla rgR0 rgx0 hcc rgG0 rgp0 rgl0 n n2 hnm hmin hnu hnm2 hmin2 hnu2 hne
end Go.Proofs.YtjclllindbfmhaaGreatDoor
