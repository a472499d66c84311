/- Parts of the proof. -/
import Derived.Test.YtjclllindbfmhabGreatDoorHs0
import Derived.Test.YtjclllindbfmhabGreatDoorHs39
import Derived.Test.YtjclllindbfmhabGreatDoorHs40
set_option linter.unusedSimpArgs false
set_option linter.unusedVariables false
namespace Go.Proofs.YtjclllindbfmhabGreatDoor
/- The law QuadSums of layer 8, walked. No statement of the seat is proved here. -/
open Go Go.RowKit
theorem bmap1q {a:Act} {i:Nat} {x:Operand} {u:Value} (h1:a.eval x=u):#[(i,x)].map (fun (i,x)=>(i,a.eval x))=#[(i,u)]:=by simp [h1]
open Classical in
set_option maxRecDepth 100000 in
set_option maxHeartbeats 25600000 in
theorem uqs4 {X0:Nat→Prop} {w:World} (hX:NX X0 w) (ra qa rb pb la:Sl) (m kx m2 kp kl:Nat) (c c2:Nat→Nat) (R R2:Nat→Nat→Int) (x:Nat→Int) (cc:Int) (xp xl_:Nat→Int) (hra:Mi m c R ra X0 w) (hqa:Li kx x qa X0 w) (hrb:Mi m2 c2 R2 rb X0 w) (hpb:Li kp xp pb X0 w) (hla:Li kl xl_ la X0 w) (rgR0:∀ i j,i < m→j < c i→-9223372036854775808≤R i j∧R i j≤9223372036854775807) (rgx0:∀ i,i < kx→-9223372036854775808≤x i∧x i≤9223372036854775807) (hcc:-9223372036854775808≤cc∧cc≤9223372036854775807) (rgG0:∀ i j,i < m2→j < c2 i→-9223372036854775808≤R2 i j∧R2 i j≤9223372036854775807) (rgp0:∀ i,i < kp→-9223372036854775808≤xp i∧xp i≤9223372036854775807) (rgl0:∀ i,i < kl→-9223372036854775808≤xl_ i∧xl_ i≤9223372036854775807) (k r:Nat) (hnm:k+r≤m) (hmin:(((m:Nat):Int)≤((6:Nat):Int)∧((k+r:Nat):Int)=((m:Nat):Int))∨(((6:Nat):Int) < ((m:Nat):Int)∧((k+r:Nat):Int)=((6:Nat):Int))) (hnu:k+r≤6) (hnm2:r≤m2) (hmin2:(((m2:Nat):Int)≤((r:Nat):Int)∧((r:Nat):Int)=((m2:Nat):Int))∨(((r:Nat):Int) < ((m2:Nat):Int)∧((r:Nat):Int)=((r:Nat):Int))) (hnu2:r≤r) (ho:¬ (Sym k (mir c R)∧∀ i,i < k→0 < M.dt (i+1) (mir c R))):Calls Tryz.prog 3 #[ra.v,qa.v,.int .i64 cc,rb.v,pb.v,la.v,.int .i64 ((k:Nat):Int)] w (PVal (.bool true) w):=by
 have rgR:=Lib.hid rgR0
 clear rgR0
 have rgx:=Lib.hid rgx0
 clear rgx0
 have rgG:=Lib.hid rgG0
 clear rgG0
 have rgp:=Lib.hid rgp0
 clear rgp0
 have rgl:=Lib.hid rgl0
 clear rgl0
 have BPm:∀ i j,i < k+r→j < k+r→Sz 2 (mir c R i j):=(fun (i j:Nat) hi hj=>sz_int (mir_in rgR.out (Nat.lt_of_lt_of_le hi hnm) (Nat.lt_of_lt_of_le hj hnm)).1 (mir_in rgR.out (Nat.lt_of_lt_of_le hi hnm) (Nat.lt_of_lt_of_le hj hnm)).2)
 have BQm:∀ i,i < k+r→Sz 2 (xl kx x i):=fun i _=>xl_in rgx.out i
 have BCm:Sz 2 cc:=sz_int hcc.1 hcc.2
 have BXm:∀ i,Sz 2 (xl kl xl_ i):=fun i=>xl_in rgl.out i
 have BGm:∀ i j,i < r→j < r→Sz 2 (mir c2 R2 i j):=(fun (i j:Nat) hi hj=>sz_int (mir_in rgG.out (Nat.lt_of_lt_of_le hi hnm2) (Nat.lt_of_lt_of_le hj hnm2)).1 (mir_in rgG.out (Nat.lt_of_lt_of_le hi hnm2) (Nat.lt_of_lt_of_le hj hnm2)).2)
 have BUm:∀ i,i < r→Sz 2 (xl kp xp i):=fun i _=>xl_in rgp.out i
 have hcz:-9223372036854775808≤(0:Int)∧(0:Int)≤9223372036854775807:=by decide
 have hZ0:=zs_start hX
 have hZ1:=hZ0.more (f:=Li kl xl_ la) (Li.stb _ _ _) hla
 clear hZ0
 have hZ2:=hZ1.more (f:=Li kp xp pb) (Li.stb _ _ _) hpb
 clear hZ1
 have hZ3:=hZ2.more (f:=Mi m2 c2 R2 rb) (Mi.stb _ _ _ _) hrb
 clear hZ2
 have hZ4:=hZ3.more (f:=Li kx x qa) (Li.stb _ _ _) hqa
 clear hZ3
 have hZ5:=hZ4.more (f:=Mi m c R ra) (Mi.stb _ _ _ _) hra
 clear hZ4
 go_enter Tryz.func3,Tryz.ntmps3
 go_wp2_with fail
 refine (uAwake hZ5.nx).mono ?_
 rintro zz W1 ⟨rfl,hB⟩
 have hZ6:=hZ5.later hB
 clear hB hZ5
 go_wp2_with fail
 refine (uRead hZ6.nx ra qa 6 (k+r) (hZ6.get 0 (f:=Mi m c R ra) rfl) (hZ6.get 1 (f:=Li kx x qa) rfl) rgR.out rgx.out hcc (by omega) hnm hmin).mono ?_
 rintro zz W2 ⟨pf,sf,cf,pfd,sfd,cfd,rfl,hi_pf,hi_sf,ez_cf,hi_cf,hi_pfd,hi_sfd,ez_cfd,hi_cfd,hB⟩
 have hZ7:=hZ6.later hB
 clear hB hZ6
 have hZ8:=hZ7.more (f:=Mt (k+r) (fun _=>k+r) (mir c R) pf) (Mt.stb _ _ _ _) hi_pf
 clear hZ7 hi_pf
 have hZ9:=hZ8.more (f:=Ls (k+r) (xl kx x) sf) (Ls.stb _ _ _) hi_sf
 clear hZ8 hi_sf
 have hZ10:=hZ9.more (f:=cf.is) cf.stb hi_cf
 clear hZ9 hi_cf
 have hZ11:=hZ10.more (f:=Mr (k+r) (fun _=>k+r) (mir c R) pfd) (Mr.stb _ _ _ _) hi_pfd
 clear hZ10 hi_pfd
 have hZ12:=hZ11.more (f:=Lr (k+r) (xl kx x) sfd) (Lr.stb _ _ _) hi_sfd
 clear hZ11 hi_sfd
 have hZ13:=hZ12.more (f:=cfd.ir) cfd.stbr hi_cfd
 clear hZ12 hi_cfd
 go_wp2_with (refine zsa 32 #[.slice none 0 0,.slice none 0 0,.bool false,.slice none 0 0] (.agg #[.slice none 0 0,.slice none 0 0,.bool false,.slice none 0 0]) rfl rfl zv32 rfl hZ13 (fun bk1 X14 W3 hZ14=>?_))
 clear hZ13
 simp only [Stop,Act.put,zzC,zzD,zzE]
 go_wp2_with (refine zsa 40 #[.slice none 0 0,.slice none 0 0,.bool false,.slice none 0 0] (.agg #[.slice none 0 0,.slice none 0 0,.bool false,.slice none 0 0]) rfl rfl zv40 rfl hZ14 (fun bk2 X15 W4 hZ15=>?_))
 clear hZ14
 simp only [Stop,Act.put,zzC,zzD,zzE]
 go_wp2_with (refine zss 32 (.tmp 16) (.tmp 43) 1 bk1 0 #[.slice none 0 0,.slice none 0 0,.bool false,.slice none 0 0] 32 4 [pf.v,sf.v,.bool cf.b,.slice cf.a cf.n cf.c] #[pf.v,sf.v,.bool cf.b,.slice cf.a cf.n cf.c] [(bk2,#[.slice none 0 0,.slice none 0 0,.bool false,.slice none 0 0],40),(bk1,#[pf.v,sf.v,.bool cf.b,.slice cf.a cf.n cf.c],32)] rfl rfl rfl rfl sz32 hZ15 rfl rfl (zzF (by kernel_rfl)) (by kernel_rfl) (by kernel_rfl) (by kernel_rfl) (fun W5 hZ16=>?_))
 clear hZ15
 simp only [Stop,Act.put,zzC,zzD,zzE]
 go_wp2_with (refine zss 40 (.tmp 17) (.tmp 44) 0 bk2 0 #[.slice none 0 0,.slice none 0 0,.bool false,.slice none 0 0] 40 4 [pfd.v,sfd.v,.bool cfd.b,.slice cfd.a cfd.n cfd.c] #[pfd.v,sfd.v,.bool cfd.b,.slice cfd.a cfd.n cfd.c] [(bk2,#[pfd.v,sfd.v,.bool cfd.b,.slice cfd.a cfd.n cfd.c],40),(bk1,#[pf.v,sf.v,.bool cf.b,.slice cf.a cf.n cf.c],32)] rfl rfl rfl rfl sz40 hZ16 rfl rfl (zzF (by kernel_rfl)) (by kernel_rfl) (by kernel_rfl) (by kernel_rfl) (fun W6 hZ17=>?_))
 clear hZ16
 simp only [Stop,Act.put,zzC,zzD,zzE]
 go_wp2_with (refine zsw (by kernel_rfl) (fun K hK=>wp_lssi (.tmp 49) (.const (.int .i64 0)) rfl rfl rfl (r:=false) (decide_eq_false (by omega)) (hK _ _ ?_)))
 simp only [Stop,Act.put,zzC,zzD,zzE]
 go_wp2_with (refine zsw (by kernel_rfl) (fun K hK=>wp_fda (v:=.pointer (some ⟨bk1,0,none⟩)) 32 (.tmp 16) 0 rfl rfl (fun _=>by kernel_rfl) (hK _ _ ?_)))
 simp only [Stop,Act.put,zzC,zzD,zzE]
 go_wp2_with (refine zsw (by kernel_rfl) (fun K hK=>wp_load1 (v:=pf.v) 26 (.tmp 54) rfl bk1 0 #[pf.v,sf.v,.bool cf.b,.slice cf.a cf.n cf.c] 32 (hZ17.es.at' _ (zzG (i:=1) rfl)) rfl ag26 (by kernel_rfl) (hK _ _ ?_)))
 simp only [Stop,Act.put,zzC,zzD,zzE]
 go_wp2_with (refine zsw (by kernel_rfl) (fun K hK=>wp_lenq (.tmp 55) 26 27 pf rfl (by kernel_rfl) rfl (hZ17.get 5 (f:=Mt (k+r) (fun _=>k+r) (mir c R) pf) rfl).n (hK _ _ ?_)))
 simp only [Stop,Act.put,zzC,zzD,zzE]
 go_wp2_with (refine zsw (by kernel_rfl) (fun K hK=>wp_gtri (.tmp 53) (.tmp 56) rfl rfl rfl (r:=false) (decide_eq_false (by omega)) (hK _ _ ?_)))
 simp only [Stop,Act.put,zzC,zzD,zzE]
 go_wp2_with (refine zso rfl (fun K hK=>wp_fda (v:=.pointer (some ⟨bk1,0,none⟩)) 32 (.tmp 16) 0 rfl rfl (fun _=>by kernel_rfl) (hK _ _ ?_)))
 simp only [Stop,Act.put,zzC,zzD,zzE]
 go_wp2_with (refine zso rfl (fun K hK=>wp_load1 (v:=pf.v) 26 (.tmp 63) rfl bk1 0 #[pf.v,sf.v,.bool cf.b,.slice cf.a cf.n cf.c] 32 (hZ17.es.at' _ (zzG (i:=1) rfl)) rfl ag26 (by kernel_rfl) (hK _ _ ?_)))
 simp only [Stop,Act.put,zzC,zzD,zzE]
 go_wp2_with (refine zso rfl (fun K hK=>wp_lenq (.tmp 64) 26 27 pf rfl (by kernel_rfl) rfl (hZ17.get 5 (f:=Mt (k+r) (fun _=>k+r) (mir c R) pf) rfl).n (hK _ _ ?_)))
 simp only [Stop,Act.put,zzC,zzD,zzE]
 go_wp2_with (refine zso rfl (fun K hK=>wp_subi (.tmp 65) (.tmp 66) rfl rfl rfl (C:=((r:Nat):Int)) (by omega) (by omega) (by omega) (hK _ _ ?_)))
 simp only [Stop,Act.put,zzC,zzD,zzE]
 go_wp2_with fail
 refine (uRead hZ17.nx rb pb r r (hZ17.get 8 (f:=Mi m2 c2 R2 rb) rfl) (hZ17.get 9 (f:=Li kp xp pb) rfl) rgG.out rgp.out hcz (by omega) hnm2 (by omega)).mono ?_
 rintro zz W7 ⟨pg,sg,cg,pgd,sgd,cgd,rfl,hi_pg,hi_sg,ez_cg,hi_cg,hi_pgd,hi_sgd,ez_cgd,hi_cgd,hB⟩
 have hZ18:=hZ17.later hB
 clear hB hZ17
 have hZ19:=hZ18.more (f:=Mt r (fun _=>r) (mir c2 R2) pg) (Mt.stb _ _ _ _) hi_pg
 clear hZ18 hi_pg
 have hZ20:=hZ19.more (f:=Ls r (xl kp xp) sg) (Ls.stb _ _ _) hi_sg
 clear hZ19 hi_sg
 have hZ21:=hZ20.more (f:=cg.is) cg.stb hi_cg
 clear hZ20 hi_cg
 have hZ22:=hZ21.more (f:=Mr r (fun _=>r) (mir c2 R2) pgd) (Mr.stb _ _ _ _) hi_pgd
 clear hZ21 hi_pgd
 have hZ23:=hZ22.more (f:=Lr r (xl kp xp) sgd) (Lr.stb _ _ _) hi_sgd
 clear hZ22 hi_sgd
 have hZ24:=hZ23.more (f:=cgd.ir) cgd.stbr hi_cgd
 clear hZ23 hi_cgd
 go_wp2_with (refine zsa 32 #[.slice none 0 0,.slice none 0 0,.bool false,.slice none 0 0] (.agg #[.slice none 0 0,.slice none 0 0,.bool false,.slice none 0 0]) rfl rfl zv32 rfl hZ24 (fun bk3 X25 W8 hZ25=>?_))
 clear hZ24
 simp only [Stop,Act.put,zzC,zzD,zzE]
 go_wp2_with (refine zsa 40 #[.slice none 0 0,.slice none 0 0,.bool false,.slice none 0 0] (.agg #[.slice none 0 0,.slice none 0 0,.bool false,.slice none 0 0]) rfl rfl zv40 rfl hZ25 (fun bk4 X26 W9 hZ26=>?_))
 clear hZ25
 simp only [Stop,Act.put,zzC,zzD,zzE]
 go_wp2_with (refine zss 32 (.tmp 19) (.tmp 69) 1 bk3 0 #[.slice none 0 0,.slice none 0 0,.bool false,.slice none 0 0] 32 4 [pg.v,sg.v,.bool cg.b,.slice cg.a cg.n cg.c] #[pg.v,sg.v,.bool cg.b,.slice cg.a cg.n cg.c] [(bk4,#[.slice none 0 0,.slice none 0 0,.bool false,.slice none 0 0],40),(bk3,#[pg.v,sg.v,.bool cg.b,.slice cg.a cg.n cg.c],32),(bk2,#[pfd.v,sfd.v,.bool cfd.b,.slice cfd.a cfd.n cfd.c],40),(bk1,#[pf.v,sf.v,.bool cf.b,.slice cf.a cf.n cf.c],32)] rfl rfl rfl rfl sz32 hZ26 rfl rfl (zzF (by kernel_rfl)) (by kernel_rfl) (by kernel_rfl) (by kernel_rfl) (fun W10 hZ27=>?_))
 clear hZ26
 simp only [Stop,Act.put,zzC,zzD,zzE]
 go_wp2_with (refine zss 40 (.tmp 20) (.tmp 70) 0 bk4 0 #[.slice none 0 0,.slice none 0 0,.bool false,.slice none 0 0] 40 4 [pgd.v,sgd.v,.bool cgd.b,.slice cgd.a cgd.n cgd.c] #[pgd.v,sgd.v,.bool cgd.b,.slice cgd.a cgd.n cgd.c] [(bk4,#[pgd.v,sgd.v,.bool cgd.b,.slice cgd.a cgd.n cgd.c],40),(bk3,#[pg.v,sg.v,.bool cg.b,.slice cg.a cg.n cg.c],32),(bk2,#[pfd.v,sfd.v,.bool cfd.b,.slice cfd.a cfd.n cfd.c],40),(bk1,#[pf.v,sf.v,.bool cf.b,.slice cf.a cf.n cf.c],32)] rfl rfl rfl rfl sz40 hZ27 rfl rfl (zzF (by kernel_rfl)) (by kernel_rfl) (by kernel_rfl) (by kernel_rfl) (fun W11 hZ28=>?_))
 clear hZ27
 simp only [Stop,Act.put,zzC,zzD,zzE]
 go_wp2_with (refine zsw (by kernel_rfl) (fun K hK=>wp_fda (v:=.pointer (some ⟨bk3,0,none⟩)) 32 (.tmp 19) 0 rfl rfl (fun _=>by kernel_rfl) (hK _ _ ?_)))
 simp only [Stop,Act.put,zzC,zzD,zzE]
 go_wp2_with (refine zsw (by kernel_rfl) (fun K hK=>wp_load1 (v:=pg.v) 26 (.tmp 75) rfl bk3 0 #[pg.v,sg.v,.bool cg.b,.slice cg.a cg.n cg.c] 32 (hZ28.es.at' _ (zzG (i:=1) rfl)) rfl ag26 (by kernel_rfl) (hK _ _ ?_)))
 simp only [Stop,Act.put,zzC,zzD,zzE]
 go_wp2_with (refine zsw (by kernel_rfl) (fun K hK=>wp_lenq (.tmp 76) 26 27 pg rfl (by kernel_rfl) rfl (hZ28.get 5 (f:=Mt r (fun _=>r) (mir c2 R2) pg) rfl).n (hK _ _ ?_)))
 simp only [Stop,Act.put,zzC,zzD,zzE]
 go_wp2_with (refine zsw (by kernel_rfl) (fun K hK=>wp_fda (v:=.pointer (some ⟨bk1,0,none⟩)) 32 (.tmp 16) 0 rfl rfl (fun _=>by kernel_rfl) (hK _ _ ?_)))
 simp only [Stop,Act.put,zzC,zzD,zzE]
 go_wp2_with (refine zsw (by kernel_rfl) (fun K hK=>wp_load1 (v:=pf.v) 26 (.tmp 78) rfl bk1 0 #[pf.v,sf.v,.bool cf.b,.slice cf.a cf.n cf.c] 32 (hZ28.es.at' _ (zzG (i:=3) rfl)) rfl ag26 (by kernel_rfl) (hK _ _ ?_)))
 simp only [Stop,Act.put,zzC,zzD,zzE]
 go_wp2_with (refine zsw (by kernel_rfl) (fun K hK=>wp_lenq (.tmp 79) 26 27 pf rfl (by kernel_rfl) rfl (hZ28.get 11 (f:=Mt (k+r) (fun _=>k+r) (mir c R) pf) rfl).n (hK _ _ ?_)))
 simp only [Stop,Act.put,zzC,zzD,zzE]
 go_wp2_with (refine zsw (by kernel_rfl) (fun K hK=>wp_subi (.tmp 80) (.tmp 81) rfl rfl rfl (C:=((r:Nat):Int)) (by omega) (by omega) (by omega) (hK _ _ ?_)))
 simp only [Stop,Act.put,zzC,zzD,zzE]
 go_wp2_with (refine zsw (by kernel_rfl) (fun K hK=>wp_neqi (.tmp 77) (.tmp 82) 3 3 rfl rfl rfl rfl (r:=false) (decide_eq_false (by simp)) (hK _ _ ?_)))
 simp only [Stop,Act.put,zzC,zzD,zzE]
 have HO:=Lib.hid ho
 clear ho
 have hdb:dtb 2 k≤3000:=dtb_le (by omega) (by omega)
 have hlb:lpb 2 k≤150:=lpb_le (by omega)
 have hdb3:dtb 3 k≤3000:=dtb_le (by omega) (by omega)
 have hlb3:lpb 3 k≤3100:=by unfold lpb; omega
 have BWm:∀ i j,i < k+r→j < k+r→Sz 2 (wdP k (mir c2 R2) i j):=fun i j hi hj=>wdP_sz BGm hi hj
 have BVm:∀ i,i < k+r→Sz 2 (wdQ k (xl kp xp) i):=fun i hi=>wdQ_sz BUm hi
 have BAm:∀ i j,i < k+r→j < k+r→Sz 3 ((fun i j=>(mir c R) i j+(wdP k (mir c2 R2)) i j) i j):=fun i j hi hj=>Sz.plus (BPm i j hi hj) (BWm i j hi hj)
 have BBm:∀ i,i < k+r→Sz 3 ((fun i=>(xl kx x) i+(wdQ k (xl kp xp)) i) i):=fun i hi=>Sz.plus (BQm i hi) (BVm i hi)
 have BDm:Sz 3 (cc+0):=Sz.plus BCm (sz_zero 2)
 go_wp2_with (refine zso rfl (fun K hK=>wp_fda (v:=.pointer (some ⟨bk3,2,none⟩)) 32 (.tmp 19) 2 rfl rfl (fun _=>by kernel_rfl) (hK _ _ ?_)))
 simp only [Stop,Act.put,zzC,zzD,zzE]
 go_wp2_with (refine zso rfl (fun K hK=>wp_load 30 (.tmp 86) rfl bk3 2 2 #[pg.v,sg.v,.bool cg.b,.slice cg.a cg.n cg.c] #[.bool cg.b,.slice cg.a cg.n cg.c] 32 (hZ28.es.at' _ (zzG (i:=1) rfl)) rfl ag30 sz30 (zzF (by kernel_rfl)) (by kernel_rfl) (hK _ _ ?_)))
 simp only [Stop,Act.put,zzC,zzD,zzE]
 go_wp2_with (refine zso rfl (fun K hK=>wp_bld (v:=.agg #[.slice none 0 0,.slice none 0 0,.bool cg.b,.slice cg.a cg.n cg.c]) 32 #[(2,.tmp 87)] rfl (bmap1q (u:=cg.v) rfl) (fun _=>by kernel_rfl) (hK _ _ ?_)))
 simp only [Stop,Act.put,zzC,zzD,zzE]
 go_wp2_with (refine zsa 32 #[.slice none 0 0,.slice none 0 0,.bool false,.slice none 0 0] (.agg #[.slice none 0 0,.slice none 0 0,.bool false,.slice none 0 0]) rfl rfl zv32 rfl hZ28 (fun bk5 X29 W12 hZ29=>?_))
 clear hZ28
 simp only [Stop,Act.put,zzC,zzD,zzE]
 go_wp2_with (refine zss 32 (.tmp 22) (.tmp 88) 0 bk5 0 #[.slice none 0 0,.slice none 0 0,.bool false,.slice none 0 0] 32 4 [.slice none 0 0,.slice none 0 0,.bool cg.b,.slice cg.a cg.n cg.c] #[.slice none 0 0,.slice none 0 0,.bool cg.b,.slice cg.a cg.n cg.c] [(bk5,#[.slice none 0 0,.slice none 0 0,.bool cg.b,.slice cg.a cg.n cg.c],32),(bk4,#[pgd.v,sgd.v,.bool cgd.b,.slice cgd.a cgd.n cgd.c],40),(bk3,#[pg.v,sg.v,.bool cg.b,.slice cg.a cg.n cg.c],32),(bk2,#[pfd.v,sfd.v,.bool cfd.b,.slice cfd.a cfd.n cfd.c],40),(bk1,#[pf.v,sf.v,.bool cf.b,.slice cf.a cf.n cf.c],32)] rfl rfl rfl rfl sz32 hZ29 rfl rfl (zzF (by kernel_rfl)) (by kernel_rfl) (by kernel_rfl) (by kernel_rfl) (fun W13 hZ30=>?_))
 clear hZ29
 simp only [Stop,Act.put,zzC,zzD,zzE]
 have hZ31:=hZ30.only [cg.is,Mt (k+r) (fun _=>k+r) (mir c R) pf,Ls (k+r) (xl kx x) sf,cf.is,Mt r (fun _=>r) (mir c2 R2) pg,Ls r (xl kp xp) sg,Li kl xl_ la] (by simp)
 clear hZ30
 go_wp2
 go_loopw [23] (fun iv wr=>∃ (i:Nat) (po so:Sl) (Cp Cs:Array Value) (X:Nat→Prop),i≤k+r∧iv=.int .i64 ((i:Nat):Int)∧po.n=i∧Wr 1 po Cp∧so.n=i∧Wr 2 so Cs∧Zs w wr X0 X ([(bk5,#[po.v,so.v,.bool cg.b,.slice cg.a cg.n cg.c],32),(bk4,#[pgd.v,sgd.v,.bool cgd.b,.slice cgd.a cgd.n cgd.c],40),(bk3,#[pg.v,sg.v,.bool cg.b,.slice cg.a cg.n cg.c],32),(bk2,#[pfd.v,sfd.v,.bool cfd.b,.slice cfd.a cfd.n cfd.c],40),(bk1,#[pf.v,sf.v,.bool cf.b,.slice cf.a cf.n cf.c],32)]++(owl po Cp 27++owl so Cs 30)) [Fl 1 (ER (fun _=>k+r) (wdP k (mir c2 R2))) i Cp,Fl 2 (EN (wdQ k (xl kp xp))) i Cs,cg.is,Mt (k+r) (fun _=>k+r) (mir c R) pf,Ls (k+r) (xl kx x) sf,cf.is,Mt r (fun _=>r) (mir c2 R2) pg,Ls r (xl kp xp) sg,Li kl xl_ la]) (fun iv _=>k+r - (intOf iv).toNat)
 case atStart=>exact ⟨0,slz,slz,#[],#[],_,by omega,rfl,rfl,wr_slz 1,rfl,wr_slz 2,by simpa [owl,slz,Sl.v] using ((hZ31.more (f:=Fl 2 (EN (wdQ k (xl kp xp))) 0 #[]) (Fl.stb (EN.stb _) _ _) (fl_zero 2 (EN (wdQ k (xl kp xp))) #[] _ _)).more (f:=Fl 1 (ER (fun _=>k+r) (wdP k (mir c2 R2))) 0 #[]) (Fl.stb (ER.stb _ _) _ _) (fl_zero 1 (ER (fun _=>k+r) (wdP k (mir c2 R2))) #[] _ _))⟩
 case round =>
  clear hZ31
  obtain ⟨i,po,so,Cp,Cs,X,hi,rfl,hn_po,hw_po,hn_so,hw_so,hZ⟩:=hrel
  by_cases hlt:i < k+r
  ·
   by_cases hik:i < k
   ·
    go_wp2_with (refine zso rfl (fun K hK=>wp_fda (v:=.pointer (some ⟨bk1,0,none⟩)) 32 (.tmp 16) 0 rfl rfl (fun _=>by kernel_rfl) (hK _ _ ?_)))
    simp only [Stop,Act.put,zzC,zzD,zzE]
    go_wp2_with (refine zso rfl (fun K hK=>wp_load1 (v:=pf.v) 26 (.tmp 90) rfl bk1 0 #[pf.v,sf.v,.bool cf.b,.slice cf.a cf.n cf.c] 32 (hZ.es.at' _ (zzG (i:=4) rfl)) rfl ag26 (by kernel_rfl) (hK _ _ ?_)))
    simp only [Stop,Act.put,zzC,zzD,zzE]
    go_wp2_with (refine zso rfl (fun K hK=>wp_lenq (.tmp 91) 26 27 pf rfl (by kernel_rfl) rfl (hZ.get 3 (f:=Mt (k+r) (fun _=>k+r) (mir c R) pf) rfl).n (hK _ _ ?_)))
    simp only [Stop,Act.put,zzC,zzD,zzE]
    go_wp2_with (refine zso rfl (fun K hK=>wp_lssi (.tmp 89) (.tmp 92) rfl rfl rfl (r:=true) (decide_eq_true (by omega)) (hK _ _ ?_)))
    simp only [Stop,Act.put,zzC,zzD,zzE]
    go_wp2_with (refine zso rfl (fun K hK=>wp_fda (v:=.pointer (some ⟨bk1,0,none⟩)) 32 (.tmp 16) 0 rfl rfl (fun _=>by kernel_rfl) (hK _ _ ?_)))
    simp only [Stop,Act.put,zzC,zzD,zzE]
    go_wp2_with (refine zso rfl (fun K hK=>wp_load1 (v:=pf.v) 26 (.tmp 96) rfl bk1 0 #[pf.v,sf.v,.bool cf.b,.slice cf.a cf.n cf.c] 32 (hZ.es.at' _ (zzG (i:=4) rfl)) rfl ag26 (by kernel_rfl) (hK _ _ ?_)))
    simp only [Stop,Act.put,zzC,zzD,zzE]
    go_wp2_with (refine zso rfl (fun K hK=>wp_lenq (.tmp 97) 26 27 pf rfl (by kernel_rfl) rfl (hZ.get 3 (f:=Mt (k+r) (fun _=>k+r) (mir c R) pf) rfl).n (hK _ _ ?_)))
    simp only [Stop,Act.put,zzC,zzD,zzE]
    go_wp2_with (refine stopz_makez ei27 (.tmp 98) (.tmp 98) (k+r) rfl rfl rfl rfl (by omega) hZ (fun o1 C1 X32 W14 hn_o1 hw_o1 hc_o1 hZ32x=>?_))
    simp only [Stop,Act.put,zzC,zzD,zzE]
    clear hZ
    have hZ33:Zs w W14 X0 X32 ([(bk5,#[po.v,so.v,.bool cg.b,.slice cg.a cg.n cg.c],32),(bk4,#[pgd.v,sgd.v,.bool cgd.b,.slice cgd.a cgd.n cgd.c],40),(bk3,#[pg.v,sg.v,.bool cg.b,.slice cg.a cg.n cg.c],32),(bk2,#[pfd.v,sfd.v,.bool cfd.b,.slice cfd.a cfd.n cfd.c],40),(bk1,#[pf.v,sf.v,.bool cf.b,.slice cf.a cf.n cf.c],32)]++(owl o1 C1 30++(owl po Cp 27++owl so Cs 30))) [Fl 1 (ER (fun _=>k+r) (wdP k (mir c2 R2))) i Cp,Fl 2 (EN (wdQ k (xl kp xp))) i Cs,cg.is,Mt (k+r) (fun _=>k+r) (mir c R) pf,Ls (k+r) (xl kx x) sf,cf.is,Mt r (fun _=>r) (mir c2 R2) pg,Ls r (xl kp xp) sg,Li kl xl_ la]:=hZ32x.perm (perm_mid (owl o1 C1 30) [(bk5,#[po.v,so.v,.bool cg.b,.slice cg.a cg.n cg.c],32),(bk4,#[pgd.v,sgd.v,.bool cgd.b,.slice cgd.a cgd.n cgd.c],40),(bk3,#[pg.v,sg.v,.bool cg.b,.slice cg.a cg.n cg.c],32),(bk2,#[pfd.v,sfd.v,.bool cfd.b,.slice cfd.a cfd.n cfd.c],40),(bk1,#[pf.v,sf.v,.bool cf.b,.slice cf.a cf.n cf.c],32)] (owl po Cp 27++owl so Cs 30))
    clear hZ32x
    have hZ34:=hZ33.more (f:=Fl 2 (EN (fun _=>0)) (k+r) C1) (Fl.stb (EN.stb _) _ _) (fl_noughts hc_o1)
    clear hZ33
    go_wp2_with (refine zsa 30 #[.bool false,.slice none 0 0] (.agg #[.bool false,.slice none 0 0]) rfl rfl zv30 rfl hZ34 (fun bk6 X35 W15 hZ35=>?_))
    clear hZ34
    simp only [Stop,Act.put,zzC,zzD,zzE]
    go_wp2_with (refine zss 30 (.tmp 25) (.tmp 100) 0 bk6 0 #[.bool false,.slice none 0 0] 30 2 [.bool false,.slice none 0 0] #[.bool false,.slice none 0 0] ([(bk6,#[.bool false,.slice none 0 0],30),(bk5,#[po.v,so.v,.bool cg.b,.slice cg.a cg.n cg.c],32),(bk4,#[pgd.v,sgd.v,.bool cgd.b,.slice cgd.a cgd.n cgd.c],40),(bk3,#[pg.v,sg.v,.bool cg.b,.slice cg.a cg.n cg.c],32),(bk2,#[pfd.v,sfd.v,.bool cfd.b,.slice cfd.a cfd.n cfd.c],40),(bk1,#[pf.v,sf.v,.bool cf.b,.slice cf.a cf.n cf.c],32)]++(owl o1 C1 30++(owl po Cp 27++owl so Cs 30))) rfl rfl rfl rfl sz30 hZ35 rfl rfl (zzF (by kernel_rfl)) (by kernel_rfl) (by kernel_rfl) (by kernel_rfl) (fun W16 hZ36=>?_))
    clear hZ35
    simp only [Stop,Act.put,zzC,zzD,zzE]
    have hZ37:Zs w W16 X0 X35 ([(bk6,#[.bool nlz.b,.slice nlz.a nlz.n nlz.c],30),(bk5,#[po.v,so.v,.bool cg.b,.slice cg.a cg.n cg.c],32),(bk4,#[pgd.v,sgd.v,.bool cgd.b,.slice cgd.a cgd.n cgd.c],40),(bk3,#[pg.v,sg.v,.bool cg.b,.slice cg.a cg.n cg.c],32),(bk2,#[pfd.v,sfd.v,.bool cfd.b,.slice cfd.a cfd.n cfd.c],40),(bk1,#[pf.v,sf.v,.bool cf.b,.slice cf.a cf.n cf.c],32)]++(owl o1 C1 30++(owl po Cp 27++owl so Cs 30))) [Fl 2 (EN (fun _=>0)) (k+r) C1,Fl 1 (ER (fun _=>k+r) (wdP k (mir c2 R2))) i Cp,Fl 2 (EN (wdQ k (xl kp xp))) i Cs,cg.is,Mt (k+r) (fun _=>k+r) (mir c R) pf,Ls (k+r) (xl kx x) sf,cf.is,Mt r (fun _=>r) (mir c2 R2) pg,Ls r (xl kp xp) sg,Li kl xl_ la]:=hZ36
    clear hZ36
    have ez_nlz:nlz.z=0:=rfl
    have hZ38:=hZ37.more (f:=nlz.is) nlz.stb (nlz_is _ _)
    clear hZ37
    go_wp2_with (refine zso rfl (fun K hK=>wp_geqi (.tmp 101) (.tmp 102) rfl rfl rfl (r:=false) (decide_eq_false (by omega)) (hK _ _ ?_)))
    simp only [Stop,Act.put,zzC,zzD,zzE]
    have hZ39r:=(hZ38.get 1 (f:=Fl 2 (EN (fun _=>0)) (k+r) C1) rfl)
    obtain ⟨X40,hZ40⟩:=Zs.tell (hZ38.perm (perm_mid _ _ _)) hX hw_o1 hn_o1 hZ39r
    clear hZ38 hZ39r
    have hZ41:=hZ40.release hX
    clear hZ40
    have hZ42:=hZ41.only [nlz.is,Cf bk6 #[.bool nlz.b,.slice nlz.a nlz.n nlz.c] 30,Ls (k+r) (fun _=>0) o1,Fl 1 (ER (fun _=>k+r) (wdP k (mir c2 R2))) i Cp,Fl 2 (EN (wdQ k (xl kp xp))) i Cs,cg.is,Mt (k+r) (fun _=>k+r) (mir c R) pf,Ls (k+r) (xl kx x) sf,cf.is,Mt r (fun _=>r) (mir c2 R2) pg,Ls r (xl kp xp) sg,Li kl xl_ la] (by simp)
    clear hZ41
    go_wp2_with (refine zso rfl (fun K hK=>wp_fda (v:=.pointer (some ⟨bk5,0,none⟩)) 32 (.tmp 22) 0 rfl rfl (fun _=>by kernel_rfl) (hK _ _ ?_)))
    simp only [Stop,Act.put,zzC,zzD,zzE]
    go_wp2_with (refine zso rfl (fun K hK=>wp_load1 (v:=po.v) 26 (.tmp 122) rfl bk5 0 #[po.v,so.v,.bool cg.b,.slice cg.a cg.n cg.c] 32 (hZ42.es.at' _ (zzG (i:=0) rfl)) rfl ag26 (by kernel_rfl) (hK _ _ ?_)))
    simp only [Stop,Act.put,zzC,zzD,zzE]
    go_wp2_with (refine zso rfl (fun K hK=>wp_bs1 ei26 (.tmp 124) rfl rfl rfl (hK _ _ ?_)))
    simp only [Stop,Act.put,zzC,zzD,zzE]
    have hZ43:=hZ42.later (below_new _ (.cells #[o1.v] 27))
    clear hZ42
    have hZ44y:=hZ43.perm (perm_mid _ _ _)
    go_wp2_with (refine zso rfl (fun K hK=>wp_app ei26 (.tmp 123) (.tmp 125) rfl (s:=po) rfl ⟨W16.heap.size,0,none⟩ 1 rfl hw_po (by rw [hn_po]; omega) hZ44y [o1.v] rfl (cell_one _ o1.v _) (fun u hu=>by simp only [List.mem_cons,List.not_mem_nil,or_false] at hu; subst hu; rfl) (fun o2 C2 X44 W17 hn_o2 hw_o2 ho_C2 hg_C2 hZ44x=>hK _ _ ?_)))
    simp only [Stop,Act.put,zzC,zzD,zzE]
    clear hZ44y
    rw [hn_po] at hn_o2 ho_C2 hg_C2
    have hZ44:=hZ44x.perm (List.Perm.symm (perm_mid _ _ _))
    clear hZ44x hZ43
    go_wp2_with (refine zso rfl (fun K hK=>wp_fda (v:=.pointer (some ⟨bk5,0,none⟩)) 32 (.tmp 22) 0 rfl rfl (fun _=>by kernel_rfl) (hK _ _ ?_)))
    simp only [Stop,Act.put,zzC,zzD,zzE]
    go_wp2_with (refine zss 26 (.tmp 127) (.tmp 126) 0 bk5 0 #[po.v,so.v,.bool cg.b,.slice cg.a cg.n cg.c] 32 1 [o2.v] #[o2.v,so.v,.bool cg.b,.slice cg.a cg.n cg.c] ([(bk5,#[o2.v,so.v,.bool cg.b,.slice cg.a cg.n cg.c],32),(bk4,#[pgd.v,sgd.v,.bool cgd.b,.slice cgd.a cgd.n cgd.c],40),(bk3,#[pg.v,sg.v,.bool cg.b,.slice cg.a cg.n cg.c],32),(bk2,#[pfd.v,sfd.v,.bool cfd.b,.slice cfd.a cfd.n cfd.c],40),(bk1,#[pf.v,sf.v,.bool cf.b,.slice cf.a cf.n cf.c],32)]++(owl o2 C2 27++owl so Cs 30)) rfl rfl rfl rfl sz26 hZ44 rfl rfl (zzF (by kernel_rfl)) (by kernel_rfl) (by kernel_rfl) (by kernel_rfl) (fun W18 hZ45=>?_))
    clear hZ44
    simp only [Stop,Act.put,zzC,zzD,zzE]
    have hZ46s:Fl 1 (ER (fun _=>k+r) (wdP k (mir c2 R2))) (i+1) C2 X44 W18:=Fl.snoc (C:=Cp) (hZ45.get 3 (f:=Fl 1 (ER (fun _=>k+r) (wdP k (mir c2 R2))) i Cp) rfl) (cs:=[o1.v]) rfl ho_C2 hg_C2 ⟨o1,(hZ45.get 2 (f:=Ls (k+r) (fun _=>0) o1) rfl).congr (fun j _=>(wdP_lo hik).symm),rfl⟩
    have hZ46:=(hZ45.more (Fl.stb (ER.stb _ _) _ _) hZ46s).only [Fl 1 (ER (fun _=>k+r) (wdP k (mir c2 R2))) (i+1) C2,nlz.is,Cf bk6 #[.bool nlz.b,.slice nlz.a nlz.n nlz.c] 30,Fl 2 (EN (wdQ k (xl kp xp))) i Cs,cg.is,Mt (k+r) (fun _=>k+r) (mir c R) pf,Ls (k+r) (xl kx x) sf,cf.is,Mt r (fun _=>r) (mir c2 R2) pg,Ls r (xl kp xp) sg,Li kl xl_ la] (by simp)
    clear hZ45 hZ46s
    go_wp2_with (refine zso rfl (fun K hK=>wp_fda (v:=.pointer (some ⟨bk5,1,none⟩)) 32 (.tmp 22) 1 rfl rfl (fun _=>by kernel_rfl) (hK _ _ ?_)))
    simp only [Stop,Act.put,zzC,zzD,zzE]
    go_wp2_with (refine zso rfl (fun K hK=>wp_load1 (v:=so.v) 27 (.tmp 128) rfl bk5 1 #[o2.v,so.v,.bool cg.b,.slice cg.a cg.n cg.c] 32 (hZ46.es.at' _ (zzG (i:=0) rfl)) rfl ag27 (by kernel_rfl) (hK _ _ ?_)))
    simp only [Stop,Act.put,zzC,zzD,zzE]
    go_wp2_with (refine zso rfl (fun K hK=>wp_load 30 (.tmp 25) rfl bk6 0 2 #[.bool nlz.b,.slice nlz.a nlz.n nlz.c] #[.bool nlz.b,.slice nlz.a nlz.n nlz.c] 30 (hZ46.get 2 (f:=Cf bk6 #[.bool nlz.b,.slice nlz.a nlz.n nlz.c] 30) rfl).1 rfl ag30 sz30 (zzF (by kernel_rfl)) (by kernel_rfl) (hK _ _ ?_)))
    simp only [Stop,Act.put,zzC,zzD,zzE]
    go_wp2_with (refine zso rfl (fun K hK=>wp_bsn ei27 (.tmp 130) nlz rfl rfl hZ46 (hZ46.get 1 (f:=nlz.is) rfl) (fun s3 W19 _ hZ47=>hK _ _ ?_)))
    simp only [Stop,Act.put,zzC,zzD,zzE]
    clear hZ46
    have hZ48:=(hZ47.more (f:=Ls 1 (fun _=>0) s3) (Ls.stb _ _ _) (hZ47.get 0 (f:=Ls 1 (fun _=>nlz.z) s3) rfl |>.congr (fun _ _=>ez_nlz))).only [Ls 1 (fun _=>0) s3,Fl 1 (ER (fun _=>k+r) (wdP k (mir c2 R2))) (i+1) C2,nlz.is,Cf bk6 #[.bool nlz.b,.slice nlz.a nlz.n nlz.c] 30,Fl 2 (EN (wdQ k (xl kp xp))) i Cs,cg.is,Mt (k+r) (fun _=>k+r) (mir c R) pf,Ls (k+r) (xl kx x) sf,cf.is,Mt r (fun _=>r) (mir c2 R2) pg,Ls r (xl kp xp) sg,Li kl xl_ la] (by simp)
    clear hZ47
    obtain ⟨qa4,q4,ea4,ez_q4,hi_q4,hca4⟩:=Ls.one (hZ48.get 0 (f:=Ls 1 (fun _=>0) s3) rfl)
    have EA4:=Lib.hid ea4
    clear ea4
    have hZ49w:=hZ48.more (f:=q4.is) q4.stb hi_q4
    have hZ49y:=hZ49w.perm ((List.Perm.append_left _ List.perm_append_comm).trans (perm_mid _ _ _))
    clear hZ49w hi_q4
    go_wp2_with (refine zso rfl (fun K hK=>wp_app ei27 (.tmp 129) (.tmp 131) rfl (s:=so) rfl qa4 s3.c EA4.out hw_so (by rw [hn_so]; omega) hZ49y [.bool q4.b,.slice q4.a q4.n q4.c] rfl hca4 (fun u hu=>by simp only [List.mem_cons,List.not_mem_nil,or_false] at hu; rcases hu with rfl | rfl <;> rfl) (fun o4 C4 X49 W20 hn_o4 hw_o4 ho_C4 hg_C4 hZ49x=>hK _ _ ?_)))
    simp only [Stop,Act.put,zzC,zzD,zzE]
    clear hZ49y hca4 EA4
    rw [hn_so] at hn_o4 ho_C4 hg_C4
    have hZ49:=hZ49x.perm (List.Perm.symm ((List.Perm.append_left _ List.perm_append_comm).trans (perm_mid _ _ _)))
    clear hZ49x hZ48
    go_wp2_with (refine zso rfl (fun K hK=>wp_fda (v:=.pointer (some ⟨bk5,1,none⟩)) 32 (.tmp 22) 1 rfl rfl (fun _=>by kernel_rfl) (hK _ _ ?_)))
    simp only [Stop,Act.put,zzC,zzD,zzE]
    go_wp2_with (refine zss 27 (.tmp 133) (.tmp 132) 0 bk5 1 #[o2.v,so.v,.bool cg.b,.slice cg.a cg.n cg.c] 32 1 [o4.v] #[o2.v,o4.v,.bool cg.b,.slice cg.a cg.n cg.c] ([(bk5,#[o2.v,o4.v,.bool cg.b,.slice cg.a cg.n cg.c],32),(bk4,#[pgd.v,sgd.v,.bool cgd.b,.slice cgd.a cgd.n cgd.c],40),(bk3,#[pg.v,sg.v,.bool cg.b,.slice cg.a cg.n cg.c],32),(bk2,#[pfd.v,sfd.v,.bool cfd.b,.slice cfd.a cfd.n cfd.c],40),(bk1,#[pf.v,sf.v,.bool cf.b,.slice cf.a cf.n cf.c],32)]++(owl o2 C2 27++owl o4 C4 30)) rfl rfl rfl rfl sz27 hZ49 rfl rfl (zzF (by kernel_rfl)) (by kernel_rfl) (by kernel_rfl) (by kernel_rfl) (fun W21 hZ50=>?_))
    clear hZ49
    simp only [Stop,Act.put,zzC,zzD,zzE]
    have hZ51s:Fl 2 (EN (wdQ k (xl kp xp))) (i+1) C4 X49 W21:=Fl.snoc (C:=Cs) (hZ50.get 5 (f:=Fl 2 (EN (wdQ k (xl kp xp))) i Cs) rfl) (cs:=[.bool q4.b,.slice q4.a q4.n q4.c]) rfl ho_C4 hg_C4 ⟨q4,ez_q4.trans (wdQ_lo hik).symm,(hZ50.get 0 (f:=q4.is) rfl),rfl⟩
    have hZ51:=(hZ50.more (Fl.stb (EN.stb _) _ _) hZ51s).only [Fl 2 (EN (wdQ k (xl kp xp))) (i+1) C4,Fl 1 (ER (fun _=>k+r) (wdP k (mir c2 R2))) (i+1) C2,cg.is,Mt (k+r) (fun _=>k+r) (mir c R) pf,Ls (k+r) (xl kx x) sf,cf.is,Mt r (fun _=>r) (mir c2 R2) pg,Ls r (xl kp xp) sg,Li kl xl_ la] (by simp)
    clear hZ50 hZ51s
    have hZ52:=hZ51.only [Fl 1 (ER (fun _=>k+r) (wdP k (mir c2 R2))) (i+1) C2,Fl 2 (EN (wdQ k (xl kp xp))) (i+1) C4,cg.is,Mt (k+r) (fun _=>k+r) (mir c R) pf,Ls (k+r) (xl kx x) sf,cf.is,Mt r (fun _=>r) (mir c2 R2) pg,Ls r (xl kp xp) sg,Li kl xl_ la] (by simp)
    clear hZ51
    go_wp2_with (refine zso rfl (fun K hK=>wp_addi (.tmp 94) (.const (.int .i64 1)) rfl rfl rfl (C:=((i+1:Nat):Int)) (by omega) (by omega) (by omega) (hK _ _ ?_)))
    simp only [Stop,Act.put,zzC,zzD,zzE]
    go_wp2
    go_roundw
    case rel=>exact ⟨i+1,o2,o4,C2,C4,_,by omega,(by first | rfl | go_num | (congr 1; omega)),hn_o2,hw_o2,hn_o4,hw_o4,hZ52⟩
    case measure=>simp [intOf]; omega
   ·
    obtain ⟨a,rfl⟩:∃ a,i=k+a:=⟨i - k,by omega⟩
    go_wp2_with (refine zso rfl (fun K hK=>wp_fda (v:=.pointer (some ⟨bk1,0,none⟩)) 32 (.tmp 16) 0 rfl rfl (fun _=>by kernel_rfl) (hK _ _ ?_)))
    simp only [Stop,Act.put,zzC,zzD,zzE]
    go_wp2_with (refine zso rfl (fun K hK=>wp_load1 (v:=pf.v) 26 (.tmp 90) rfl bk1 0 #[pf.v,sf.v,.bool cf.b,.slice cf.a cf.n cf.c] 32 (hZ.es.at' _ (zzG (i:=4) rfl)) rfl ag26 (by kernel_rfl) (hK _ _ ?_)))
    simp only [Stop,Act.put,zzC,zzD,zzE]
    go_wp2_with (refine zso rfl (fun K hK=>wp_lenq (.tmp 91) 26 27 pf rfl (by kernel_rfl) rfl (hZ.get 3 (f:=Mt (k+r) (fun _=>k+r) (mir c R) pf) rfl).n (hK _ _ ?_)))
    simp only [Stop,Act.put,zzC,zzD,zzE]
    go_wp2_with (refine zso rfl (fun K hK=>wp_lssi (.tmp 89) (.tmp 92) rfl rfl rfl (r:=true) (decide_eq_true (by omega)) (hK _ _ ?_)))
    simp only [Stop,Act.put,zzC,zzD,zzE]
    go_wp2_with (refine zso rfl (fun K hK=>wp_fda (v:=.pointer (some ⟨bk1,0,none⟩)) 32 (.tmp 16) 0 rfl rfl (fun _=>by kernel_rfl) (hK _ _ ?_)))
    simp only [Stop,Act.put,zzC,zzD,zzE]
    go_wp2_with (refine zso rfl (fun K hK=>wp_load1 (v:=pf.v) 26 (.tmp 96) rfl bk1 0 #[pf.v,sf.v,.bool cf.b,.slice cf.a cf.n cf.c] 32 (hZ.es.at' _ (zzG (i:=4) rfl)) rfl ag26 (by kernel_rfl) (hK _ _ ?_)))
    simp only [Stop,Act.put,zzC,zzD,zzE]
    go_wp2_with (refine zso rfl (fun K hK=>wp_lenq (.tmp 97) 26 27 pf rfl (by kernel_rfl) rfl (hZ.get 3 (f:=Mt (k+r) (fun _=>k+r) (mir c R) pf) rfl).n (hK _ _ ?_)))
    simp only [Stop,Act.put,zzC,zzD,zzE]
    go_wp2_with (refine stopz_makez ei27 (.tmp 98) (.tmp 98) (k+r) rfl rfl rfl rfl (by omega) hZ (fun o5 C5 X53 W22 hn_o5 hw_o5 hc_o5 hZ53x=>?_))
    simp only [Stop,Act.put,zzC,zzD,zzE]
    clear hZ
    have hZ54:Zs w W22 X0 X53 ([(bk5,#[po.v,so.v,.bool cg.b,.slice cg.a cg.n cg.c],32),(bk4,#[pgd.v,sgd.v,.bool cgd.b,.slice cgd.a cgd.n cgd.c],40),(bk3,#[pg.v,sg.v,.bool cg.b,.slice cg.a cg.n cg.c],32),(bk2,#[pfd.v,sfd.v,.bool cfd.b,.slice cfd.a cfd.n cfd.c],40),(bk1,#[pf.v,sf.v,.bool cf.b,.slice cf.a cf.n cf.c],32)]++(owl o5 C5 30++(owl po Cp 27++owl so Cs 30))) [Fl 1 (ER (fun _=>k+r) (wdP k (mir c2 R2))) (k+a) Cp,Fl 2 (EN (wdQ k (xl kp xp))) (k+a) Cs,cg.is,Mt (k+r) (fun _=>k+r) (mir c R) pf,Ls (k+r) (xl kx x) sf,cf.is,Mt r (fun _=>r) (mir c2 R2) pg,Ls r (xl kp xp) sg,Li kl xl_ la]:=hZ53x.perm (perm_mid (owl o5 C5 30) [(bk5,#[po.v,so.v,.bool cg.b,.slice cg.a cg.n cg.c],32),(bk4,#[pgd.v,sgd.v,.bool cgd.b,.slice cgd.a cgd.n cgd.c],40),(bk3,#[pg.v,sg.v,.bool cg.b,.slice cg.a cg.n cg.c],32),(bk2,#[pfd.v,sfd.v,.bool cfd.b,.slice cfd.a cfd.n cfd.c],40),(bk1,#[pf.v,sf.v,.bool cf.b,.slice cf.a cf.n cf.c],32)] (owl po Cp 27++owl so Cs 30))
    clear hZ53x
    have hZ55:=hZ54.more (f:=Fl 2 (EN (fun _=>0)) (k+r) C5) (Fl.stb (EN.stb _) _ _) (fl_noughts hc_o5)
    clear hZ54
    go_wp2_with (refine zsa 30 #[.bool false,.slice none 0 0] (.agg #[.bool false,.slice none 0 0]) rfl rfl zv30 rfl hZ55 (fun bk7 X56 W23 hZ56=>?_))
    clear hZ55
    simp only [Stop,Act.put,zzC,zzD,zzE]
    go_wp2_with (refine zss 30 (.tmp 25) (.tmp 100) 0 bk7 0 #[.bool false,.slice none 0 0] 30 2 [.bool false,.slice none 0 0] #[.bool false,.slice none 0 0] ([(bk7,#[.bool false,.slice none 0 0],30),(bk5,#[po.v,so.v,.bool cg.b,.slice cg.a cg.n cg.c],32),(bk4,#[pgd.v,sgd.v,.bool cgd.b,.slice cgd.a cgd.n cgd.c],40),(bk3,#[pg.v,sg.v,.bool cg.b,.slice cg.a cg.n cg.c],32),(bk2,#[pfd.v,sfd.v,.bool cfd.b,.slice cfd.a cfd.n cfd.c],40),(bk1,#[pf.v,sf.v,.bool cf.b,.slice cf.a cf.n cf.c],32)]++(owl o5 C5 30++(owl po Cp 27++owl so Cs 30))) rfl rfl rfl rfl sz30 hZ56 rfl rfl (zzF (by kernel_rfl)) (by kernel_rfl) (by kernel_rfl) (by kernel_rfl) (fun W24 hZ57=>?_))
    clear hZ56
    simp only [Stop,Act.put,zzC,zzD,zzE]
    go_wp2_with (refine zso rfl (fun K hK=>wp_geqi (.tmp 101) (.tmp 102) rfl rfl rfl (r:=true) (decide_eq_true (by omega)) (hK _ _ ?_)))
    simp only [Stop,Act.put,zzC,zzD,zzE]
    go_wp2
    obtain ⟨XR15,hZ58⟩:∃ Xr,Zs w W24 X0 Xr ([(bk7,#[.bool false,.slice none 0 0],30),(bk5,#[po.v,so.v,.bool cg.b,.slice cg.a cg.n cg.c],32),(bk4,#[pgd.v,sgd.v,.bool cgd.b,.slice cgd.a cgd.n cgd.c],40),(bk3,#[pg.v,sg.v,.bool cg.b,.slice cg.a cg.n cg.c],32),(bk2,#[pfd.v,sfd.v,.bool cfd.b,.slice cfd.a cfd.n cfd.c],40),(bk1,#[pf.v,sf.v,.bool cf.b,.slice cf.a cf.n cf.c],32)]++(owl o5 C5 30++(owl po Cp 27++owl so Cs 30))) [Fl 2 (EN (fun _=>0)) (k+r) C5,Fl 1 (ER (fun _=>k+r) (wdP k (mir c2 R2))) (k+a) Cp,Fl 2 (EN (wdQ k (xl kp xp))) (k+a) Cs,cg.is,Mt (k+r) (fun _=>k+r) (mir c R) pf,Ls (k+r) (xl kx x) sf,cf.is,Mt r (fun _=>r) (mir c2 R2) pg,Ls r (xl kp xp) sg,Li kl xl_ la]:=⟨_,hZ57⟩
    clear hZ57
    refine zrp 10 [some 104,some 105,some 106,some 107,some 108,some 109,some 110,some 111,some 112,some 113] [veq (o5.v),veq (.int .i64 (((k:Nat):Int))),veq ((o5.cut 2 k o5.n).v),veq (.pointer (some ⟨bk3,0,none⟩)),veq (pg.v),veq (.int .i64 (((k+a:Nat):Int))),veq (.int .i64 (((k:Nat):Int))),veq (.int .i64 (((a:Nat):Int))),veq ((pg.at 1 a)),vls r (mir c2 R2 a)] (by kernel_rfl) (by kernel_rfl) (by rfl) (by decide) (by rfl) hZ58 ?_ ?_
    ·
     intro iq hlq hiq LL uu ww aa hLi hLc hJ hd hall hev hin hold
     clear hZ58
     obtain rfl | rfl | rfl | rfl | rfl | rfl | rfl | rfl | rfl | rfl:iq=0∨iq=1∨iq=2∨iq=3∨iq=4∨iq=5∨iq=6∨iq=7∨iq=8∨iq=9:=by omega
     ·
      exact oz rfl (fun _ hK=>wp_move (.tmp 24) rfl (zet ((hev 24 (by decide)).trans rfl)) (hK _ _ hJ rfl vsm))
     ·
      exact oz rfl (fun _ hK=>wp_move (.tmp 6) rfl (zet ((hev 6 (by decide)).trans rfl)) (hK _ _ hJ rfl vsm))
     ·
      exact oz rfl (fun _ hK=>wp_slcn 27 30 2 (.tmp 104) (.tmp 105) o5 k rfl (zj (hin 0 104 rfl) (show uu 0=o5.v from (hd 0 (by kernel_rfl)))) (zj (hin 1 105 rfl) (show uu 1=.int .i64 (((k:Nat):Int)) from (hd 1 (by kernel_rfl)))) (by kernel_rfl) sz30 (by rw [hn_o5]; omega) (hK _ _ hJ rfl vsm))
     ·
      exact oz rfl (fun _ hK=>wp_fda (v:=.pointer (some ⟨bk3,0,none⟩)) 32 (.tmp 19) 0 rfl (zet ((hev 19 (by decide)).trans rfl)) (fun _=>by kernel_rfl) (hK _ _ hJ rfl vsm))
     ·
      exact oz rfl (fun _ hK=>wp_load1 (v:=pg.v) 26 (.tmp 107) rfl bk3 0 #[pg.v,sg.v,.bool cg.b,.slice cg.a cg.n cg.c] 32 (hJ.es.at' _ (zzG (i:=3) rfl)) (zj (hin 3 107 rfl) (show uu 3=.pointer (some ⟨bk3,0,none⟩) from (hd 3 (by kernel_rfl)))) ag26 (by kernel_rfl) (hK _ _ hJ rfl vsm))
     ·
      exact oz rfl (fun _ hK=>wp_move (.tmp 23) rfl (zet ((hev 23 (by decide)).trans rfl)) (hK _ _ hJ rfl vsm))
     ·
      exact oz rfl (fun _ hK=>wp_move (.tmp 6) rfl (zet ((hev 6 (by decide)).trans rfl)) (hK _ _ hJ rfl vsm))
     ·
      exact oz rfl (fun _ hK=>wp_subi (.tmp 109) (.tmp 110) rfl (zj (hin 5 109 rfl) (show uu 5=.int .i64 (((k+a:Nat):Int)) from (hd 5 (by kernel_rfl)))) (zj (hin 6 110 rfl) (show uu 6=.int .i64 (((k:Nat):Int)) from (hd 6 (by kernel_rfl)))) (C:=((a:Nat):Int)) (by omega) (by omega) (by omega) (hK _ _ hJ rfl vsm))
     ·
      exact oz rfl (fun _ hK=>wp_ixs 26 (.tmp 108) (.tmp 111) pg a 1 27 rfl (zj (hin 4 108 rfl) (show uu 4=pg.v from (hd 4 (by kernel_rfl)))) (zj (hin 7 111 rfl) (show uu 7=.int .i64 (((a:Nat):Int)) from (hd 7 (by kernel_rfl)))) (by kernel_rfl) sz27 (fun h=>((hJ.get 7 (f:=Mt r (fun _=>r) (mir c2 R2) pg) rfl).sq.nil h).1) ((hJ.get 7 (f:=Mt r (fun _=>r) (mir c2 R2) pg) rfl).n ▸ (by omega)) (hK _ _ hJ rfl vsm))
     ·
      exact oz rfl (fun _ hK=>wp_ldm 27 (.tmp 112) pg a r (fun _=>r) (mir c2 R2) rfl (zj (hin 8 112 rfl) (show uu 8=(pg.at 1 a) from (hd 8 (by kernel_rfl)))) (hJ.get 7 (f:=Mt r (fun _=>r) (mir c2 R2) pg) rfl) (by omega) ag27 (fun s6 hi_s6=>hK _ _ hJ ⟨s6,rfl,hi_s6⟩ vsm))
    clear hZ58
    intro uu W25 hZ59 hd
    have e_0:uu 0=o5.v:=hd 0 (by decide)
    have e_1:uu 1=.int .i64 (((k:Nat):Int)):=hd 1 (by decide)
    have e_2:uu 2=(o5.cut 2 k o5.n).v:=hd 2 (by decide)
    have e_3:uu 3=.pointer (some ⟨bk3,0,none⟩):=hd 3 (by decide)
    have e_4:uu 4=pg.v:=hd 4 (by decide)
    have e_5:uu 5=.int .i64 (((k+a:Nat):Int)):=hd 5 (by decide)
    have e_6:uu 6=.int .i64 (((k:Nat):Int)):=hd 6 (by decide)
    have e_7:uu 7=.int .i64 (((a:Nat):Int)):=hd 7 (by decide)
    have e_8:uu 8=(pg.at 1 a):=hd 8 (by decide)
    obtain ⟨s6,e_9,hi_s6⟩:=(show (vls r (mir c2 R2 a)) (uu 9) XR15 W25 from hd 9 (by decide))
    clear hd
    simp only [layS,Act.put,zzC,zzD,zzE,Nat.zero_add,Nat.reduceAdd,List.drop_succ_cons,List.drop_zero,List.drop_nil,e_0,e_1,e_2,e_3,e_4,e_5,e_6,e_7,e_8,e_9]
    clear e_0 e_1 e_2 e_3 e_4 e_5 e_6 e_7 e_8 e_9
    have hZ60:=hZ59.more (f:=Ls r (mir c2 R2 a) s6) (Ls.stb _ _ _) hi_s6
    clear hZ59 hi_s6
    go_wp2_with (refine zso rfl (fun K hK=>wp_copy ei27 (.tmp 106) (.tmp 113) rfl (EN.stb (mir c2 R2 a)) (EN.one (mir c2 R2 a)) (s1:=o5) (s2:=s6) k r rfl rfl hw_o5 (hZ60.perm (perm_mid _ _ _)) (hZ60.get 0 (f:=Ls r (mir c2 R2 a) s6) rfl).sq (by rw [hn_o5]; omega) (by rw [((hZ60.get 0 (f:=Ls r (mir c2 R2 a) s6) rfl)).n,hn_o5,Nat.add_sub_cancel_left]; exact (Nat.min_self r).symm) (fun C7 W26 hw_o5n hZ61 hin_C7 hout_C7=>hK _ _ ?_)))
    simp only [Stop,Act.put,zzC,zzD,zzE]
    clear hw_o5
    have hw_o5:=hw_o5n
    clear hw_o5n hZ60
    have hZ62:Zs w W26 X0 XR15 ([(bk7,#[.bool false,.slice none 0 0],30),(bk5,#[po.v,so.v,.bool cg.b,.slice cg.a cg.n cg.c],32),(bk4,#[pgd.v,sgd.v,.bool cgd.b,.slice cgd.a cgd.n cgd.c],40),(bk3,#[pg.v,sg.v,.bool cg.b,.slice cg.a cg.n cg.c],32),(bk2,#[pfd.v,sfd.v,.bool cfd.b,.slice cfd.a cfd.n cfd.c],40),(bk1,#[pf.v,sf.v,.bool cf.b,.slice cf.a cf.n cf.c],32)]++(owl o5 C7 30++(owl po Cp 27++owl so Cs 30))) [Ls r (mir c2 R2 a) s6,Fl 2 (EN (fun _=>0)) (k+r) C5,Fl 1 (ER (fun _=>k+r) (wdP k (mir c2 R2))) (k+a) Cp,Fl 2 (EN (wdQ k (xl kp xp))) (k+a) Cs,cg.is,Mt (k+r) (fun _=>k+r) (mir c R) pf,Ls (k+r) (xl kx x) sf,cf.is,Mt r (fun _=>r) (mir c2 R2) pg,Ls r (xl kp xp) sg,Li kl xl_ la]:=hZ61.perm (List.Perm.symm (perm_mid _ _ _))
    clear hZ61
    have hZ63r:Fl 2 (EN (wdP k (mir c2 R2) (k+a))) (k+r) C7 XR15 W26:=(fl_copied (hZ62.get 1 (f:=Fl 2 (EN (fun _=>0)) (k+r) C5) rfl) hin_C7 hout_C7).congr (fun j _ _ ⟨p,h1,h2,h3⟩=>⟨p,h1.trans wdP_row.symm,h2,h3⟩)
    obtain ⟨X64,hZ64⟩:=Zs.tell (hZ62.perm (perm_mid _ _ _)) hX hw_o5 hn_o5 hZ63r
    clear hZ62 hZ63r hin_C7 hout_C7
    go_wp2_with (refine zso rfl (fun K hK=>wp_fda (v:=.pointer (some ⟨bk3,1,none⟩)) 32 (.tmp 19) 1 rfl rfl (fun _=>by kernel_rfl) (hK _ _ ?_)))
    simp only [Stop,Act.put,zzC,zzD,zzE]
    go_wp2_with (refine zso rfl (fun K hK=>wp_load1 (v:=sg.v) 27 (.tmp 115) rfl bk3 1 #[pg.v,sg.v,.bool cg.b,.slice cg.a cg.n cg.c] 32 (hZ64.es.at' _ (zzG (i:=3) rfl)) rfl ag27 (by kernel_rfl) (hK _ _ ?_)))
    simp only [Stop,Act.put,zzC,zzD,zzE]
    go_wp2_with (refine zso rfl (fun K hK=>wp_subi (.tmp 117) (.tmp 118) rfl rfl rfl (C:=((a:Nat):Int)) (by omega) (by omega) (by omega) (hK _ _ ?_)))
    simp only [Stop,Act.put,zzC,zzD,zzE]
    go_wp2_with (refine zso rfl (fun K hK=>wp_ixs 27 (.tmp 116) (.tmp 119) sg a 2 30 rfl rfl rfl (by kernel_rfl) sz30 (fun h=>((hZ64.get 10 (f:=Ls r (xl kp xp) sg) rfl).sq.nil h).1) ((hZ64.get 10 (f:=Ls r (xl kp xp) sg) rfl).n ▸ (by omega)) (hK _ _ ?_)))
    simp only [Stop,Act.put,zzC,zzD,zzE]
    go_wp2_with (refine zso rfl (fun K hK=>wp_ldn 30 (.tmp 120) sg a r (xl kp xp) rfl rfl (hZ64.get 10 (f:=Ls r (xl kp xp) sg) rfl) (by omega) ag30 sz30 (fun q8 ez_q8 hi_q8=>hK _ _ ?_)))
    simp only [Stop,Act.put,zzC,zzD,zzE]
    have hZ65:=hZ64.more (f:=q8.is) q8.stb hi_q8
    clear hZ64 hi_q8
    go_wp2_with (refine zss 30 (.tmp 25) (.tmp 121) 0 bk7 0 #[.bool false,.slice none 0 0] 30 2 [.bool q8.b,.slice q8.a q8.n q8.c] #[.bool q8.b,.slice q8.a q8.n q8.c] ([(bk7,#[.bool q8.b,.slice q8.a q8.n q8.c],30),(bk5,#[po.v,so.v,.bool cg.b,.slice cg.a cg.n cg.c],32),(bk4,#[pgd.v,sgd.v,.bool cgd.b,.slice cgd.a cgd.n cgd.c],40),(bk3,#[pg.v,sg.v,.bool cg.b,.slice cg.a cg.n cg.c],32),(bk2,#[pfd.v,sfd.v,.bool cfd.b,.slice cfd.a cfd.n cfd.c],40),(bk1,#[pf.v,sf.v,.bool cf.b,.slice cf.a cf.n cf.c],32)]++(owl po Cp 27++owl so Cs 30)) rfl rfl rfl rfl sz30 hZ65 rfl rfl (zzF (by kernel_rfl)) (by kernel_rfl) (by kernel_rfl) (by kernel_rfl) (fun W27 hZ66=>?_))
    clear hZ65
    simp only [Stop,Act.put,zzC,zzD,zzE]
    have hZ67:=hZ66.release hX
    clear hZ66
    have hZ68:=hZ67.only [q8.is,Cf bk7 #[.bool q8.b,.slice q8.a q8.n q8.c] 30,Ls (k+r) (wdP k (mir c2 R2) (k+a)) o5,Fl 1 (ER (fun _=>k+r) (wdP k (mir c2 R2))) (k+a) Cp,Fl 2 (EN (wdQ k (xl kp xp))) (k+a) Cs,cg.is,Mt (k+r) (fun _=>k+r) (mir c R) pf,Ls (k+r) (xl kx x) sf,cf.is,Mt r (fun _=>r) (mir c2 R2) pg,Ls r (xl kp xp) sg,Li kl xl_ la] (by simp)
    clear hZ67
    go_wp2_with (refine zso rfl (fun K hK=>wp_fda (v:=.pointer (some ⟨bk5,0,none⟩)) 32 (.tmp 22) 0 rfl rfl (fun _=>by kernel_rfl) (hK _ _ ?_)))
    simp only [Stop,Act.put,zzC,zzD,zzE]
    go_wp2_with (refine zso rfl (fun K hK=>wp_load1 (v:=po.v) 26 (.tmp 122) rfl bk5 0 #[po.v,so.v,.bool cg.b,.slice cg.a cg.n cg.c] 32 (hZ68.es.at' _ (zzG (i:=0) rfl)) rfl ag26 (by kernel_rfl) (hK _ _ ?_)))
    simp only [Stop,Act.put,zzC,zzD,zzE]
    go_wp2_with (refine zso rfl (fun K hK=>wp_bs1 ei26 (.tmp 124) rfl rfl rfl (hK _ _ ?_)))
    simp only [Stop,Act.put,zzC,zzD,zzE]
    have hZ69:=hZ68.later (below_new _ (.cells #[o5.v] 27))
    clear hZ68
    have hZ70y:=hZ69.perm (perm_mid _ _ _)
    go_wp2_with (refine zso rfl (fun K hK=>wp_app ei26 (.tmp 123) (.tmp 125) rfl (s:=po) rfl ⟨W27.heap.size,0,none⟩ 1 rfl hw_po (by rw [hn_po]; omega) hZ70y [o5.v] rfl (cell_one _ o5.v _) (fun u hu=>by simp only [List.mem_cons,List.not_mem_nil,or_false] at hu; subst hu; rfl) (fun o9 C9 X70 W28 hn_o9 hw_o9 ho_C9 hg_C9 hZ70x=>hK _ _ ?_)))
    simp only [Stop,Act.put,zzC,zzD,zzE]
    clear hZ70y
    rw [hn_po] at hn_o9 ho_C9 hg_C9
    have hZ70:=hZ70x.perm (List.Perm.symm (perm_mid _ _ _))
    clear hZ70x hZ69
    go_wp2_with (refine zso rfl (fun K hK=>wp_fda (v:=.pointer (some ⟨bk5,0,none⟩)) 32 (.tmp 22) 0 rfl rfl (fun _=>by kernel_rfl) (hK _ _ ?_)))
    simp only [Stop,Act.put,zzC,zzD,zzE]
    go_wp2_with (refine zss 26 (.tmp 127) (.tmp 126) 0 bk5 0 #[po.v,so.v,.bool cg.b,.slice cg.a cg.n cg.c] 32 1 [o9.v] #[o9.v,so.v,.bool cg.b,.slice cg.a cg.n cg.c] ([(bk5,#[o9.v,so.v,.bool cg.b,.slice cg.a cg.n cg.c],32),(bk4,#[pgd.v,sgd.v,.bool cgd.b,.slice cgd.a cgd.n cgd.c],40),(bk3,#[pg.v,sg.v,.bool cg.b,.slice cg.a cg.n cg.c],32),(bk2,#[pfd.v,sfd.v,.bool cfd.b,.slice cfd.a cfd.n cfd.c],40),(bk1,#[pf.v,sf.v,.bool cf.b,.slice cf.a cf.n cf.c],32)]++(owl o9 C9 27++owl so Cs 30)) rfl rfl rfl rfl sz26 hZ70 rfl rfl (zzF (by kernel_rfl)) (by kernel_rfl) (by kernel_rfl) (by kernel_rfl) (fun W29 hZ71=>?_))
    clear hZ70
    simp only [Stop,Act.put,zzC,zzD,zzE]
    have hZ72s:Fl 1 (ER (fun _=>k+r) (wdP k (mir c2 R2))) (k+a+1) C9 X70 W29:=Fl.snoc (C:=Cp) (hZ71.get 3 (f:=Fl 1 (ER (fun _=>k+r) (wdP k (mir c2 R2))) (k+a) Cp) rfl) (cs:=[o5.v]) rfl ho_C9 hg_C9 ⟨o5,(hZ71.get 2 (f:=Ls (k+r) (wdP k (mir c2 R2) (k+a)) o5) rfl),rfl⟩
    have hZ72:=(hZ71.more (Fl.stb (ER.stb _ _) _ _) hZ72s).only [Fl 1 (ER (fun _=>k+r) (wdP k (mir c2 R2))) (k+a+1) C9,q8.is,Cf bk7 #[.bool q8.b,.slice q8.a q8.n q8.c] 30,Fl 2 (EN (wdQ k (xl kp xp))) (k+a) Cs,cg.is,Mt (k+r) (fun _=>k+r) (mir c R) pf,Ls (k+r) (xl kx x) sf,cf.is,Mt r (fun _=>r) (mir c2 R2) pg,Ls r (xl kp xp) sg,Li kl xl_ la] (by simp)
    clear hZ71 hZ72s
    go_wp2_with (refine zso rfl (fun K hK=>wp_fda (v:=.pointer (some ⟨bk5,1,none⟩)) 32 (.tmp 22) 1 rfl rfl (fun _=>by kernel_rfl) (hK _ _ ?_)))
    simp only [Stop,Act.put,zzC,zzD,zzE]
    go_wp2_with (refine zso rfl (fun K hK=>wp_load1 (v:=so.v) 27 (.tmp 128) rfl bk5 1 #[o9.v,so.v,.bool cg.b,.slice cg.a cg.n cg.c] 32 (hZ72.es.at' _ (zzG (i:=0) rfl)) rfl ag27 (by kernel_rfl) (hK _ _ ?_)))
    simp only [Stop,Act.put,zzC,zzD,zzE]
    go_wp2_with (refine zso rfl (fun K hK=>wp_load 30 (.tmp 25) rfl bk7 0 2 #[.bool q8.b,.slice q8.a q8.n q8.c] #[.bool q8.b,.slice q8.a q8.n q8.c] 30 (hZ72.get 2 (f:=Cf bk7 #[.bool q8.b,.slice q8.a q8.n q8.c] 30) rfl).1 rfl ag30 sz30 (zzF (by kernel_rfl)) (by kernel_rfl) (hK _ _ ?_)))
    simp only [Stop,Act.put,zzC,zzD,zzE]
    go_wp2_with (refine zso rfl (fun K hK=>wp_bsn ei27 (.tmp 130) q8 rfl rfl hZ72 (hZ72.get 1 (f:=q8.is) rfl) (fun s10 W30 _ hZ73=>hK _ _ ?_)))
    simp only [Stop,Act.put,zzC,zzD,zzE]
    clear hZ72
    have hZ74:=(hZ73.more (f:=Ls 1 (fun _=>xl kp xp a) s10) (Ls.stb _ _ _) (hZ73.get 0 (f:=Ls 1 (fun _=>q8.z) s10) rfl |>.congr (fun _ _=>ez_q8))).only [Ls 1 (fun _=>xl kp xp a) s10,Fl 1 (ER (fun _=>k+r) (wdP k (mir c2 R2))) (k+a+1) C9,q8.is,Cf bk7 #[.bool q8.b,.slice q8.a q8.n q8.c] 30,Fl 2 (EN (wdQ k (xl kp xp))) (k+a) Cs,cg.is,Mt (k+r) (fun _=>k+r) (mir c R) pf,Ls (k+r) (xl kx x) sf,cf.is,Mt r (fun _=>r) (mir c2 R2) pg,Ls r (xl kp xp) sg,Li kl xl_ la] (by simp)
    clear hZ73
    obtain ⟨qa11,q11,ea11,ez_q11,hi_q11,hca11⟩:=Ls.one (hZ74.get 0 (f:=Ls 1 (fun _=>xl kp xp a) s10) rfl)
    have EA11:=Lib.hid ea11
    clear ea11
    have hZ75w:=hZ74.more (f:=q11.is) q11.stb hi_q11
    have hZ75y:=hZ75w.perm ((List.Perm.append_left _ List.perm_append_comm).trans (perm_mid _ _ _))
    clear hZ75w hi_q11
    go_wp2_with (refine zso rfl (fun K hK=>wp_app ei27 (.tmp 129) (.tmp 131) rfl (s:=so) rfl qa11 s10.c EA11.out hw_so (by rw [hn_so]; omega) hZ75y [.bool q11.b,.slice q11.a q11.n q11.c] rfl hca11 (fun u hu=>by simp only [List.mem_cons,List.not_mem_nil,or_false] at hu; rcases hu with rfl | rfl <;> rfl) (fun o11 C11 X75 W31 hn_o11 hw_o11 ho_C11 hg_C11 hZ75x=>hK _ _ ?_)))
    simp only [Stop,Act.put,zzC,zzD,zzE]
    clear hZ75y hca11 EA11
    rw [hn_so] at hn_o11 ho_C11 hg_C11
    have hZ75:=hZ75x.perm (List.Perm.symm ((List.Perm.append_left _ List.perm_append_comm).trans (perm_mid _ _ _)))
    clear hZ75x hZ74
    go_wp2_with (refine zso rfl (fun K hK=>wp_fda (v:=.pointer (some ⟨bk5,1,none⟩)) 32 (.tmp 22) 1 rfl rfl (fun _=>by kernel_rfl) (hK _ _ ?_)))
    simp only [Stop,Act.put,zzC,zzD,zzE]
    go_wp2_with (refine zss 27 (.tmp 133) (.tmp 132) 0 bk5 1 #[o9.v,so.v,.bool cg.b,.slice cg.a cg.n cg.c] 32 1 [o11.v] #[o9.v,o11.v,.bool cg.b,.slice cg.a cg.n cg.c] ([(bk5,#[o9.v,o11.v,.bool cg.b,.slice cg.a cg.n cg.c],32),(bk4,#[pgd.v,sgd.v,.bool cgd.b,.slice cgd.a cgd.n cgd.c],40),(bk3,#[pg.v,sg.v,.bool cg.b,.slice cg.a cg.n cg.c],32),(bk2,#[pfd.v,sfd.v,.bool cfd.b,.slice cfd.a cfd.n cfd.c],40),(bk1,#[pf.v,sf.v,.bool cf.b,.slice cf.a cf.n cf.c],32)]++(owl o9 C9 27++owl o11 C11 30)) rfl rfl rfl rfl sz27 hZ75 rfl rfl (zzF (by kernel_rfl)) (by kernel_rfl) (by kernel_rfl) (by kernel_rfl) (fun W32 hZ76=>?_))
    clear hZ75
    simp only [Stop,Act.put,zzC,zzD,zzE]
    have hZ77s:Fl 2 (EN (wdQ k (xl kp xp))) (k+a+1) C11 X75 W32:=Fl.snoc (C:=Cs) (hZ76.get 5 (f:=Fl 2 (EN (wdQ k (xl kp xp))) (k+a) Cs) rfl) (cs:=[.bool q11.b,.slice q11.a q11.n q11.c]) rfl ho_C11 hg_C11 ⟨q11,ez_q11.trans wdQ_at.symm,(hZ76.get 0 (f:=q11.is) rfl),rfl⟩
    have hZ77:=(hZ76.more (Fl.stb (EN.stb _) _ _) hZ77s).only [Fl 2 (EN (wdQ k (xl kp xp))) (k+a+1) C11,Fl 1 (ER (fun _=>k+r) (wdP k (mir c2 R2))) (k+a+1) C9,cg.is,Mt (k+r) (fun _=>k+r) (mir c R) pf,Ls (k+r) (xl kx x) sf,cf.is,Mt r (fun _=>r) (mir c2 R2) pg,Ls r (xl kp xp) sg,Li kl xl_ la] (by simp)
    clear hZ76 hZ77s
    have hZ78:=hZ77.only [Fl 1 (ER (fun _=>k+r) (wdP k (mir c2 R2))) (k+a+1) C9,Fl 2 (EN (wdQ k (xl kp xp))) (k+a+1) C11,cg.is,Mt (k+r) (fun _=>k+r) (mir c R) pf,Ls (k+r) (xl kx x) sf,cf.is,Mt r (fun _=>r) (mir c2 R2) pg,Ls r (xl kp xp) sg,Li kl xl_ la] (by simp)
    clear hZ77
    go_wp2_with (refine zso rfl (fun K hK=>wp_addi (.tmp 94) (.const (.int .i64 1)) rfl rfl rfl (C:=((k+a+1:Nat):Int)) (by omega) (by omega) (by omega) (hK _ _ ?_)))
    simp only [Stop,Act.put,zzC,zzD,zzE]
    go_wp2
    go_roundw
    case rel=>exact ⟨k+a+1,o9,o11,C9,C11,_,by omega,(by first | rfl | go_num | (congr 1; omega)),hn_o9,hw_o9,hn_o11,hw_o11,hZ78⟩
    case measure=>simp [intOf]; omega
  ·
   have hiN:i=k+r:=by omega
   subst hiN
   go_wp2_with (refine zso rfl (fun K hK=>wp_fda (v:=.pointer (some ⟨bk1,0,none⟩)) 32 (.tmp 16) 0 rfl rfl (fun _=>by kernel_rfl) (hK _ _ ?_)))
   simp only [Stop,Act.put,zzC,zzD,zzE]
   go_wp2_with (refine zso rfl (fun K hK=>wp_load1 (v:=pf.v) 26 (.tmp 90) rfl bk1 0 #[pf.v,sf.v,.bool cf.b,.slice cf.a cf.n cf.c] 32 (hZ.es.at' _ (zzG (i:=4) rfl)) rfl ag26 (by kernel_rfl) (hK _ _ ?_)))
   simp only [Stop,Act.put,zzC,zzD,zzE]
   go_wp2_with (refine zso rfl (fun K hK=>wp_lenq (.tmp 91) 26 27 pf rfl (by kernel_rfl) rfl (hZ.get 3 (f:=Mt (k+r) (fun _=>k+r) (mir c R) pf) rfl).n (hK _ _ ?_)))
   simp only [Stop,Act.put,zzC,zzD,zzE]
   go_wp2_with (refine zso rfl (fun K hK=>wp_lssi (.tmp 89) (.tmp 92) rfl rfl rfl (r:=false) (decide_eq_false (Int.lt_irrefl _)) (hK _ _ ?_)))
   simp only [Stop,Act.put,zzC,zzD,zzE]
   obtain ⟨XT,hZ79⟩:=Zs.tellMt (hZ.perm (perm_mid _ _ _)) hX hw_po hn_po (hZ.get 0 (f:=Fl 1 (ER (fun _=>k+r) (wdP k (mir c2 R2))) (k+r) Cp) rfl)
   clear hZ
   obtain ⟨XU,hZ80⟩:=Zs.tell (hZ79.perm List.perm_append_comm) hX hw_so hn_so (hZ79.get 2 (f:=Fl 2 (EN (wdQ k (xl kp xp))) (k+r) Cs) rfl)
   clear hZ79
   have hZ81:=hZ80.only [Ls (k+r) (wdQ k (xl kp xp)) so,Mt (k+r) (fun _=>k+r) (wdP k (mir c2 R2)) po,cg.is,Mt (k+r) (fun _=>k+r) (mir c R) pf,Ls (k+r) (xl kx x) sf,cf.is,Mt r (fun _=>r) (mir c2 R2) pg,Ls r (xl kp xp) sg,Li kl xl_ la] (by simp)
   clear hZ80
   go_wp2_with (refine zso rfl (fun K hK=>wp_load 32 (.tmp 16) rfl bk1 0 4 #[pf.v,sf.v,.bool cf.b,.slice cf.a cf.n cf.c] #[pf.v,sf.v,.bool cf.b,.slice cf.a cf.n cf.c] 32 (hZ81.es.at' _ (zzG (i:=4) rfl)) rfl ag32 sz32 (zzF (by kernel_rfl)) (by kernel_rfl) (hK _ _ ?_)))
   simp only [Stop,Act.put,zzC,zzD,zzE]
   go_wp2_with fail
   refine (uWoFlat hZ81.nx pf sf cf (k:=k) (r:=r) (e:=2) (hZ81.get 3 (f:=Mt (k+r) (fun _=>k+r) (mir c R) pf) rfl) (hZ81.get 4 (f:=Ls (k+r) (xl kx x) sf) rfl) (hZ81.get 5 (f:=cf.is) rfl) ez_cf BPm BQm BCm (fun i j _ _=>mir_sym c R i j) (by omega) (by omega) (by omega) (by omega) HO.out).mono ?_
   rintro zz W33 ⟨rfl,hB⟩
   have hZ82:=hZ81.later hB
   clear hB hZ81
   go_wp2_with (refine zsa 32 #[.slice none 0 0,.slice none 0 0,.bool false,.slice none 0 0] (.agg #[.slice none 0 0,.slice none 0 0,.bool false,.slice none 0 0]) rfl rfl zv32 rfl hZ82 (fun bk8 X83 W34 hZ83=>?_))
   clear hZ82
   simp only [Stop,Act.put,zzC,zzD,zzE]
   go_wp2_with (refine zsa 30 #[.bool false,.slice none 0 0] (.agg #[.bool false,.slice none 0 0]) rfl rfl zv30 rfl hZ83 (fun bk9 X84 W35 hZ84=>?_))
   clear hZ83
   simp only [Stop,Act.put,zzC,zzD,zzE]
   go_wp2_with (refine zss 32 (.tmp 26) (.tmp 138) 1 bk8 0 #[.slice none 0 0,.slice none 0 0,.bool false,.slice none 0 0] 32 4 [.slice none 0 0,.slice none 0 0,.bool false,.slice none 0 0] #[.slice none 0 0,.slice none 0 0,.bool false,.slice none 0 0] [(bk9,#[.bool false,.slice none 0 0],30),(bk8,#[.slice none 0 0,.slice none 0 0,.bool false,.slice none 0 0],32),(bk5,#[po.v,so.v,.bool cg.b,.slice cg.a cg.n cg.c],32),(bk4,#[pgd.v,sgd.v,.bool cgd.b,.slice cgd.a cgd.n cgd.c],40),(bk3,#[pg.v,sg.v,.bool cg.b,.slice cg.a cg.n cg.c],32),(bk2,#[pfd.v,sfd.v,.bool cfd.b,.slice cfd.a cfd.n cfd.c],40),(bk1,#[pf.v,sf.v,.bool cf.b,.slice cf.a cf.n cf.c],32)] rfl rfl rfl rfl sz32 hZ84 rfl rfl (zzF (by kernel_rfl)) (by kernel_rfl) (by kernel_rfl) (by kernel_rfl) (fun W36 hZ85=>?_))
   clear hZ84
   simp only [Stop,Act.put,zzC,zzD,zzE]
   go_wp2_with (refine zss 30 (.tmp 27) (.tmp 139) 0 bk9 0 #[.bool false,.slice none 0 0] 30 2 [.bool false,.slice none 0 0] #[.bool false,.slice none 0 0] [(bk9,#[.bool false,.slice none 0 0],30),(bk8,#[.slice none 0 0,.slice none 0 0,.bool false,.slice none 0 0],32),(bk5,#[po.v,so.v,.bool cg.b,.slice cg.a cg.n cg.c],32),(bk4,#[pgd.v,sgd.v,.bool cgd.b,.slice cgd.a cgd.n cgd.c],40),(bk3,#[pg.v,sg.v,.bool cg.b,.slice cg.a cg.n cg.c],32),(bk2,#[pfd.v,sfd.v,.bool cfd.b,.slice cfd.a cfd.n cfd.c],40),(bk1,#[pf.v,sf.v,.bool cf.b,.slice cf.a cf.n cf.c],32)] rfl rfl rfl rfl sz30 hZ85 rfl rfl (zzF (by kernel_rfl)) (by kernel_rfl) (by kernel_rfl) (by kernel_rfl) (fun W37 hZ86=>?_))
   clear hZ85
   simp only [Stop,Act.put,zzC,zzD,zzE]
   go_wp2_with (refine zso rfl (fun K hK=>wp_load 32 (.tmp 16) rfl bk1 0 4 #[pf.v,sf.v,.bool cf.b,.slice cf.a cf.n cf.c] #[pf.v,sf.v,.bool cf.b,.slice cf.a cf.n cf.c] 32 (hZ86.es.at' _ (zzG (i:=6) rfl)) rfl ag32 sz32 (zzF (by kernel_rfl)) (by kernel_rfl) (hK _ _ ?_)))
   simp only [Stop,Act.put,zzC,zzD,zzE]
   go_wp2_with (refine zso rfl (fun K hK=>wp_load 32 (.tmp 22) rfl bk5 0 4 #[po.v,so.v,.bool cg.b,.slice cg.a cg.n cg.c] #[po.v,so.v,.bool cg.b,.slice cg.a cg.n cg.c] 32 (hZ86.es.at' _ (zzG (i:=2) rfl)) rfl ag32 sz32 (zzF (by kernel_rfl)) (by kernel_rfl) (hK _ _ ?_)))
   simp only [Stop,Act.put,zzC,zzD,zzE]
   go_wp2_with fail
   refine (uAdd hZ86.nx pf sf cf po so cg (e:=2) (hZ86.get 3 (f:=Mt (k+r) (fun _=>k+r) (mir c R) pf) rfl) (hZ86.get 4 (f:=Ls (k+r) (xl kx x) sf) rfl) (hZ86.get 5 (f:=cf.is) rfl) ez_cf (hZ86.get 1 (f:=Mt (k+r) (fun _=>k+r) (wdP k (mir c2 R2)) po) rfl) (hZ86.get 0 (f:=Ls (k+r) (wdQ k (xl kp xp)) so) rfl) (hZ86.get 2 (f:=cg.is) rfl) ez_cg BPm BQm BCm BWm BVm (sz_zero 2) (by omega) (by omega)).mono ?_
   rintro zz W38 ⟨pa,sa,ca,rfl,hi_pa,hi_sa,ez_ca,hi_ca,hB⟩
   have hZ87:=hZ86.later hB
   clear hB hZ86
   have hZ88:=hZ87.more (f:=Mt (k+r) (fun _=>k+r) (fun i j=>(mir c R) i j+(wdP k (mir c2 R2)) i j) pa) (Mt.stb _ _ _ _) hi_pa
   clear hZ87 hi_pa
   have hZ89:=hZ88.more (f:=Ls (k+r) (fun i=>(xl kx x) i+(wdQ k (xl kp xp)) i) sa) (Ls.stb _ _ _) hi_sa
   clear hZ88 hi_sa
   have hZ90:=hZ89.more (f:=ca.is) ca.stb hi_ca
   clear hZ89 hi_ca
   go_wp2_with fail
   refine (uWoFlat hZ90.nx pa sa ca (k:=k) (r:=r) (e:=3) (hZ90.get 2 (f:=Mt (k+r) (fun _=>k+r) (fun i j=>(mir c R) i j+(wdP k (mir c2 R2)) i j) pa) rfl) (hZ90.get 1 (f:=Ls (k+r) (fun i=>(xl kx x) i+(wdQ k (xl kp xp)) i) sa) rfl) (hZ90.get 0 (f:=ca.is) rfl) ez_ca BAm BBm BDm (fun i j _ _=>by show mir c R i j+wdP k (mir c2 R2) i j=mir c R j i+wdP k (mir c2 R2) j i; rw [mir_sym c R i j,wdP_sym (fun i j=>mir_sym c2 R2 i j) i j]) (by omega) (by omega) (by omega) (by omega) (fun h=>HO.out (wd_def.1 h))).mono ?_
   rintro zz W39 ⟨rfl,hB⟩
   have hZ91:=hZ90.later hB
   clear hB hZ90
   go_wp2_with (refine zsa 32 #[.slice none 0 0,.slice none 0 0,.bool false,.slice none 0 0] (.agg #[.slice none 0 0,.slice none 0 0,.bool false,.slice none 0 0]) rfl rfl zv32 rfl hZ91 (fun bk10 X92 W40 hZ92=>?_))
   clear hZ91
   simp only [Stop,Act.put,zzC,zzD,zzE]
   go_wp2_with (refine zsa 30 #[.bool false,.slice none 0 0] (.agg #[.bool false,.slice none 0 0]) rfl rfl zv30 rfl hZ92 (fun bk11 X93 W41 hZ93=>?_))
   clear hZ92
   simp only [Stop,Act.put,zzC,zzD,zzE]
   go_wp2_with (refine zss 32 (.tmp 29) (.tmp 147) 1 bk10 0 #[.slice none 0 0,.slice none 0 0,.bool false,.slice none 0 0] 32 4 [.slice none 0 0,.slice none 0 0,.bool false,.slice none 0 0] #[.slice none 0 0,.slice none 0 0,.bool false,.slice none 0 0] [(bk11,#[.bool false,.slice none 0 0],30),(bk10,#[.slice none 0 0,.slice none 0 0,.bool false,.slice none 0 0],32),(bk9,#[.bool false,.slice none 0 0],30),(bk8,#[.slice none 0 0,.slice none 0 0,.bool false,.slice none 0 0],32),(bk5,#[po.v,so.v,.bool cg.b,.slice cg.a cg.n cg.c],32),(bk4,#[pgd.v,sgd.v,.bool cgd.b,.slice cgd.a cgd.n cgd.c],40),(bk3,#[pg.v,sg.v,.bool cg.b,.slice cg.a cg.n cg.c],32),(bk2,#[pfd.v,sfd.v,.bool cfd.b,.slice cfd.a cfd.n cfd.c],40),(bk1,#[pf.v,sf.v,.bool cf.b,.slice cf.a cf.n cf.c],32)] rfl rfl rfl rfl sz32 hZ93 rfl rfl (zzF (by kernel_rfl)) (by kernel_rfl) (by kernel_rfl) (by kernel_rfl) (fun W42 hZ94=>?_))
   clear hZ93
   simp only [Stop,Act.put,zzC,zzD,zzE]
   go_wp2_with (refine zss 30 (.tmp 30) (.tmp 148) 0 bk11 0 #[.bool false,.slice none 0 0] 30 2 [.bool false,.slice none 0 0] #[.bool false,.slice none 0 0] [(bk11,#[.bool false,.slice none 0 0],30),(bk10,#[.slice none 0 0,.slice none 0 0,.bool false,.slice none 0 0],32),(bk9,#[.bool false,.slice none 0 0],30),(bk8,#[.slice none 0 0,.slice none 0 0,.bool false,.slice none 0 0],32),(bk5,#[po.v,so.v,.bool cg.b,.slice cg.a cg.n cg.c],32),(bk4,#[pgd.v,sgd.v,.bool cgd.b,.slice cgd.a cgd.n cgd.c],40),(bk3,#[pg.v,sg.v,.bool cg.b,.slice cg.a cg.n cg.c],32),(bk2,#[pfd.v,sfd.v,.bool cfd.b,.slice cfd.a cfd.n cfd.c],40),(bk1,#[pf.v,sf.v,.bool cf.b,.slice cf.a cf.n cf.c],32)] rfl rfl rfl rfl sz30 hZ94 rfl rfl (zzF (by kernel_rfl)) (by kernel_rfl) (by kernel_rfl) (by kernel_rfl) (fun W43 hZ95=>?_))
   clear hZ94
   simp only [Stop,Act.put,zzC,zzD,zzE]
   go_wp2
   go_ret
   exact ⟨rfl,hZ95.below⟩
end Go.Proofs.YtjclllindbfmhabGreatDoor
