/- Parts of the proof. -/
import Derived.Test.YtjclllindbfmhabGreatDoorHs0
import Derived.Test.YtjclllindbfmhabGreatDoorHs36
import Derived.Test.YtjclllindbfmhabGreatDoorHs38
set_option linter.unusedSimpArgs false
set_option linter.unusedVariables false
namespace Go.Proofs.YtjclllindbfmhabGreatDoor
/- The law QuadSums of layer 8, walked. No statement of the seat is proved here. -/
open Go Go.RowKit
open Classical in
set_option maxRecDepth 100000 in
set_option maxHeartbeats 25600000 in
theorem uqs1 {X0:Nat→Prop} {w:World} (hX:NX X0 w) (ra qa rb pb la:Sl) (m kx m2 kp kl:Nat) (c c2:Nat→Nat) (R R2:Nat→Nat→Int) (x:Nat→Int) (cc:Int) (xp xl_:Nat→Int) (hra:Mi m c R ra X0 w) (hqa:Li kx x qa X0 w) (hrb:Mi m2 c2 R2 rb X0 w) (hpb:Li kp xp pb X0 w) (hla:Li kl xl_ la X0 w) (rgR0:∀ i j,i < m→j < c i→-9223372036854775808≤R i j∧R i j≤9223372036854775807) (rgx0:∀ i,i < kx→-9223372036854775808≤x i∧x i≤9223372036854775807) (hcc:-9223372036854775808≤cc∧cc≤9223372036854775807) (rgG0:∀ i j,i < m2→j < c2 i→-9223372036854775808≤R2 i j∧R2 i j≤9223372036854775807) (rgp0:∀ i,i < kp→-9223372036854775808≤xp i∧xp i≤9223372036854775807) (rgl0:∀ i,i < kl→-9223372036854775808≤xl_ i∧xl_ i≤9223372036854775807) (n:Nat) (kk:Int) (hnm:n≤m) (hmin:(((m:Nat):Int)≤((6:Nat):Int)∧((n:Nat):Int)=((m:Nat):Int))∨(((6:Nat):Int) < ((m:Nat):Int)∧((n:Nat):Int)=((6:Nat):Int))) (hnu:n≤6) (hk:kk < 0):Calls Tryz.prog 3 #[ra.v,qa.v,.int .i64 cc,rb.v,pb.v,la.v,.int .i64 kk] w (PVal (.bool true) w):=by
 have rgR:=Lib.hid rgR0
 clear rgR0
 have rgx:=Lib.hid rgx0
 clear rgx0
 have rgG:=Lib.hid rgG0
 clear rgG0
 have rgp:=Lib.hid rgp0
 clear rgp0
 have rgl:=Lib.hid rgl0
 clear rgl0
 have BPm:∀ i j,i < n→j < n→Sz 2 (mir c R i j):=(fun (i j:Nat) hi hj=>sz_int (mir_in rgR.out (Nat.lt_of_lt_of_le hi hnm) (Nat.lt_of_lt_of_le hj hnm)).1 (mir_in rgR.out (Nat.lt_of_lt_of_le hi hnm) (Nat.lt_of_lt_of_le hj hnm)).2)
 have BQm:∀ i,i < n→Sz 2 (xl kx x i):=fun i _=>xl_in rgx.out i
 have BCm:Sz 2 cc:=sz_int hcc.1 hcc.2
 have BXm:∀ i,Sz 2 (xl kl xl_ i):=fun i=>xl_in rgl.out i
 have hZ0:=zs_start hX
 have hZ1:=hZ0.more (f:=Li kl xl_ la) (Li.stb _ _ _) hla
 clear hZ0
 have hZ2:=hZ1.more (f:=Li kp xp pb) (Li.stb _ _ _) hpb
 clear hZ1
 have hZ3:=hZ2.more (f:=Mi m2 c2 R2 rb) (Mi.stb _ _ _ _) hrb
 clear hZ2
 have hZ4:=hZ3.more (f:=Li kx x qa) (Li.stb _ _ _) hqa
 clear hZ3
 have hZ5:=hZ4.more (f:=Mi m c R ra) (Mi.stb _ _ _ _) hra
 clear hZ4
 go_enter Tryz.func3,Tryz.ntmps3
 go_wp2_with fail
 refine (uAwake hZ5.nx).mono ?_
 rintro zz W1 ⟨rfl,hB⟩
 have hZ6:=hZ5.later hB
 clear hB hZ5
 go_wp2_with fail
 refine (uRead hZ6.nx ra qa 6 n (hZ6.get 0 (f:=Mi m c R ra) rfl) (hZ6.get 1 (f:=Li kx x qa) rfl) rgR.out rgx.out hcc (by omega) hnm hmin).mono ?_
 rintro zz W2 ⟨pf,sf,cf,pfd,sfd,cfd,rfl,hi_pf,hi_sf,ez_cf,hi_cf,hi_pfd,hi_sfd,ez_cfd,hi_cfd,hB⟩
 have hZ7:=hZ6.later hB
 clear hB hZ6
 have hZ8:=hZ7.more (f:=Mt n (fun _=>n) (mir c R) pf) (Mt.stb _ _ _ _) hi_pf
 clear hZ7 hi_pf
 have hZ9:=hZ8.more (f:=Ls n (xl kx x) sf) (Ls.stb _ _ _) hi_sf
 clear hZ8 hi_sf
 have hZ10:=hZ9.more (f:=cf.is) cf.stb hi_cf
 clear hZ9 hi_cf
 have hZ11:=hZ10.more (f:=Mr n (fun _=>n) (mir c R) pfd) (Mr.stb _ _ _ _) hi_pfd
 clear hZ10 hi_pfd
 have hZ12:=hZ11.more (f:=Lr n (xl kx x) sfd) (Lr.stb _ _ _) hi_sfd
 clear hZ11 hi_sfd
 have hZ13:=hZ12.more (f:=cfd.ir) cfd.stbr hi_cfd
 clear hZ12 hi_cfd
 go_wp2_with (refine zsa 32 #[.slice none 0 0,.slice none 0 0,.bool false,.slice none 0 0] (.agg #[.slice none 0 0,.slice none 0 0,.bool false,.slice none 0 0]) rfl rfl zv32 rfl hZ13 (fun bk1 X14 W3 hZ14=>?_))
 clear hZ13
 simp only [Stop,Act.put,zzC,zzD,zzE]
 go_wp2_with (refine zsa 40 #[.slice none 0 0,.slice none 0 0,.bool false,.slice none 0 0] (.agg #[.slice none 0 0,.slice none 0 0,.bool false,.slice none 0 0]) rfl rfl zv40 rfl hZ14 (fun bk2 X15 W4 hZ15=>?_))
 clear hZ14
 simp only [Stop,Act.put,zzC,zzD,zzE]
 go_wp2_with (refine zss 32 (.tmp 16) (.tmp 43) 1 bk1 0 #[.slice none 0 0,.slice none 0 0,.bool false,.slice none 0 0] 32 4 [pf.v,sf.v,.bool cf.b,.slice cf.a cf.n cf.c] #[pf.v,sf.v,.bool cf.b,.slice cf.a cf.n cf.c] [(bk2,#[.slice none 0 0,.slice none 0 0,.bool false,.slice none 0 0],40),(bk1,#[pf.v,sf.v,.bool cf.b,.slice cf.a cf.n cf.c],32)] rfl rfl rfl rfl sz32 hZ15 rfl rfl (zzF (by kernel_rfl)) (by kernel_rfl) (by kernel_rfl) (by kernel_rfl) (fun W5 hZ16=>?_))
 clear hZ15
 simp only [Stop,Act.put,zzC,zzD,zzE]
 go_wp2_with (refine zss 40 (.tmp 17) (.tmp 44) 0 bk2 0 #[.slice none 0 0,.slice none 0 0,.bool false,.slice none 0 0] 40 4 [pfd.v,sfd.v,.bool cfd.b,.slice cfd.a cfd.n cfd.c] #[pfd.v,sfd.v,.bool cfd.b,.slice cfd.a cfd.n cfd.c] [(bk2,#[pfd.v,sfd.v,.bool cfd.b,.slice cfd.a cfd.n cfd.c],40),(bk1,#[pf.v,sf.v,.bool cf.b,.slice cf.a cf.n cf.c],32)] rfl rfl rfl rfl sz40 hZ16 rfl rfl (zzF (by kernel_rfl)) (by kernel_rfl) (by kernel_rfl) (by kernel_rfl) (fun W6 hZ17=>?_))
 clear hZ16
 simp only [Stop,Act.put,zzC,zzD,zzE]
 go_wp2_with (refine zsw (by kernel_rfl) (fun K hK=>wp_lssi (.tmp 49) (.const (.int .i64 0)) rfl rfl rfl (r:=true) (decide_eq_true hk) (hK _ _ ?_)))
 simp only [Stop,Act.put,zzC,zzD,zzE]
 go_wp2
 go_ret
 exact ⟨rfl,hZ17.below⟩
open Classical in
set_option maxRecDepth 100000 in
set_option maxHeartbeats 25600000 in
theorem uqs2 {X0:Nat→Prop} {w:World} (hX:NX X0 w) (ra qa rb pb la:Sl) (m kx m2 kp kl:Nat) (c c2:Nat→Nat) (R R2:Nat→Nat→Int) (x:Nat→Int) (cc:Int) (xp xl_:Nat→Int) (hra:Mi m c R ra X0 w) (hqa:Li kx x qa X0 w) (hrb:Mi m2 c2 R2 rb X0 w) (hpb:Li kp xp pb X0 w) (hla:Li kl xl_ la X0 w) (rgR0:∀ i j,i < m→j < c i→-9223372036854775808≤R i j∧R i j≤9223372036854775807) (rgx0:∀ i,i < kx→-9223372036854775808≤x i∧x i≤9223372036854775807) (hcc:-9223372036854775808≤cc∧cc≤9223372036854775807) (rgG0:∀ i j,i < m2→j < c2 i→-9223372036854775808≤R2 i j∧R2 i j≤9223372036854775807) (rgp0:∀ i,i < kp→-9223372036854775808≤xp i∧xp i≤9223372036854775807) (rgl0:∀ i,i < kl→-9223372036854775808≤xl_ i∧xl_ i≤9223372036854775807) (n:Nat) (kk:Int) (hnm:n≤m) (hmin:(((m:Nat):Int)≤((6:Nat):Int)∧((n:Nat):Int)=((m:Nat):Int))∨(((6:Nat):Int) < ((m:Nat):Int)∧((n:Nat):Int)=((6:Nat):Int))) (hnu:n≤6) (hk:0≤kk) (hk2:(n:Int) < kk):Calls Tryz.prog 3 #[ra.v,qa.v,.int .i64 cc,rb.v,pb.v,la.v,.int .i64 kk] w (PVal (.bool true) w):=by
 have rgR:=Lib.hid rgR0
 clear rgR0
 have rgx:=Lib.hid rgx0
 clear rgx0
 have rgG:=Lib.hid rgG0
 clear rgG0
 have rgp:=Lib.hid rgp0
 clear rgp0
 have rgl:=Lib.hid rgl0
 clear rgl0
 have BPm:∀ i j,i < n→j < n→Sz 2 (mir c R i j):=(fun (i j:Nat) hi hj=>sz_int (mir_in rgR.out (Nat.lt_of_lt_of_le hi hnm) (Nat.lt_of_lt_of_le hj hnm)).1 (mir_in rgR.out (Nat.lt_of_lt_of_le hi hnm) (Nat.lt_of_lt_of_le hj hnm)).2)
 have BQm:∀ i,i < n→Sz 2 (xl kx x i):=fun i _=>xl_in rgx.out i
 have BCm:Sz 2 cc:=sz_int hcc.1 hcc.2
 have BXm:∀ i,Sz 2 (xl kl xl_ i):=fun i=>xl_in rgl.out i
 have hZ0:=zs_start hX
 have hZ1:=hZ0.more (f:=Li kl xl_ la) (Li.stb _ _ _) hla
 clear hZ0
 have hZ2:=hZ1.more (f:=Li kp xp pb) (Li.stb _ _ _) hpb
 clear hZ1
 have hZ3:=hZ2.more (f:=Mi m2 c2 R2 rb) (Mi.stb _ _ _ _) hrb
 clear hZ2
 have hZ4:=hZ3.more (f:=Li kx x qa) (Li.stb _ _ _) hqa
 clear hZ3
 have hZ5:=hZ4.more (f:=Mi m c R ra) (Mi.stb _ _ _ _) hra
 clear hZ4
 go_enter Tryz.func3,Tryz.ntmps3
 go_wp2_with fail
 refine (uAwake hZ5.nx).mono ?_
 rintro zz W1 ⟨rfl,hB⟩
 have hZ6:=hZ5.later hB
 clear hB hZ5
 go_wp2_with fail
 refine (uRead hZ6.nx ra qa 6 n (hZ6.get 0 (f:=Mi m c R ra) rfl) (hZ6.get 1 (f:=Li kx x qa) rfl) rgR.out rgx.out hcc (by omega) hnm hmin).mono ?_
 rintro zz W2 ⟨pf,sf,cf,pfd,sfd,cfd,rfl,hi_pf,hi_sf,ez_cf,hi_cf,hi_pfd,hi_sfd,ez_cfd,hi_cfd,hB⟩
 have hZ7:=hZ6.later hB
 clear hB hZ6
 have hZ8:=hZ7.more (f:=Mt n (fun _=>n) (mir c R) pf) (Mt.stb _ _ _ _) hi_pf
 clear hZ7 hi_pf
 have hZ9:=hZ8.more (f:=Ls n (xl kx x) sf) (Ls.stb _ _ _) hi_sf
 clear hZ8 hi_sf
 have hZ10:=hZ9.more (f:=cf.is) cf.stb hi_cf
 clear hZ9 hi_cf
 have hZ11:=hZ10.more (f:=Mr n (fun _=>n) (mir c R) pfd) (Mr.stb _ _ _ _) hi_pfd
 clear hZ10 hi_pfd
 have hZ12:=hZ11.more (f:=Lr n (xl kx x) sfd) (Lr.stb _ _ _) hi_sfd
 clear hZ11 hi_sfd
 have hZ13:=hZ12.more (f:=cfd.ir) cfd.stbr hi_cfd
 clear hZ12 hi_cfd
 go_wp2_with (refine zsa 32 #[.slice none 0 0,.slice none 0 0,.bool false,.slice none 0 0] (.agg #[.slice none 0 0,.slice none 0 0,.bool false,.slice none 0 0]) rfl rfl zv32 rfl hZ13 (fun bk1 X14 W3 hZ14=>?_))
 clear hZ13
 simp only [Stop,Act.put,zzC,zzD,zzE]
 go_wp2_with (refine zsa 40 #[.slice none 0 0,.slice none 0 0,.bool false,.slice none 0 0] (.agg #[.slice none 0 0,.slice none 0 0,.bool false,.slice none 0 0]) rfl rfl zv40 rfl hZ14 (fun bk2 X15 W4 hZ15=>?_))
 clear hZ14
 simp only [Stop,Act.put,zzC,zzD,zzE]
 go_wp2_with (refine zss 32 (.tmp 16) (.tmp 43) 1 bk1 0 #[.slice none 0 0,.slice none 0 0,.bool false,.slice none 0 0] 32 4 [pf.v,sf.v,.bool cf.b,.slice cf.a cf.n cf.c] #[pf.v,sf.v,.bool cf.b,.slice cf.a cf.n cf.c] [(bk2,#[.slice none 0 0,.slice none 0 0,.bool false,.slice none 0 0],40),(bk1,#[pf.v,sf.v,.bool cf.b,.slice cf.a cf.n cf.c],32)] rfl rfl rfl rfl sz32 hZ15 rfl rfl (zzF (by kernel_rfl)) (by kernel_rfl) (by kernel_rfl) (by kernel_rfl) (fun W5 hZ16=>?_))
 clear hZ15
 simp only [Stop,Act.put,zzC,zzD,zzE]
 go_wp2_with (refine zss 40 (.tmp 17) (.tmp 44) 0 bk2 0 #[.slice none 0 0,.slice none 0 0,.bool false,.slice none 0 0] 40 4 [pfd.v,sfd.v,.bool cfd.b,.slice cfd.a cfd.n cfd.c] #[pfd.v,sfd.v,.bool cfd.b,.slice cfd.a cfd.n cfd.c] [(bk2,#[pfd.v,sfd.v,.bool cfd.b,.slice cfd.a cfd.n cfd.c],40),(bk1,#[pf.v,sf.v,.bool cf.b,.slice cf.a cf.n cf.c],32)] rfl rfl rfl rfl sz40 hZ16 rfl rfl (zzF (by kernel_rfl)) (by kernel_rfl) (by kernel_rfl) (by kernel_rfl) (fun W6 hZ17=>?_))
 clear hZ16
 simp only [Stop,Act.put,zzC,zzD,zzE]
 go_wp2_with (refine zsw (by kernel_rfl) (fun K hK=>wp_lssi (.tmp 49) (.const (.int .i64 0)) rfl rfl rfl (r:=false) (decide_eq_false (by omega)) (hK _ _ ?_)))
 simp only [Stop,Act.put,zzC,zzD,zzE]
 go_wp2_with (refine zsw (by kernel_rfl) (fun K hK=>wp_fda (v:=.pointer (some ⟨bk1,0,none⟩)) 32 (.tmp 16) 0 rfl rfl (fun _=>by kernel_rfl) (hK _ _ ?_)))
 simp only [Stop,Act.put,zzC,zzD,zzE]
 go_wp2_with (refine zsw (by kernel_rfl) (fun K hK=>wp_load1 (v:=pf.v) 26 (.tmp 54) rfl bk1 0 #[pf.v,sf.v,.bool cf.b,.slice cf.a cf.n cf.c] 32 (hZ17.es.at' _ (zzG (i:=1) rfl)) rfl ag26 (by kernel_rfl) (hK _ _ ?_)))
 simp only [Stop,Act.put,zzC,zzD,zzE]
 go_wp2_with (refine zsw (by kernel_rfl) (fun K hK=>wp_lenq (.tmp 55) 26 27 pf rfl (by kernel_rfl) rfl (hZ17.get 5 (f:=Mt n (fun _=>n) (mir c R) pf) rfl).n (hK _ _ ?_)))
 simp only [Stop,Act.put,zzC,zzD,zzE]
 go_wp2_with (refine zsw (by kernel_rfl) (fun K hK=>wp_gtri (.tmp 53) (.tmp 56) rfl rfl rfl (r:=true) (decide_eq_true hk2) (hK _ _ ?_)))
 simp only [Stop,Act.put,zzC,zzD,zzE]
 go_wp2
 go_ret
 exact ⟨rfl,hZ17.below⟩
open Classical in
set_option maxRecDepth 100000 in
set_option maxHeartbeats 25600000 in
theorem uqs3 {X0:Nat→Prop} {w:World} (hX:NX X0 w) (ra qa rb pb la:Sl) (m kx m2 kp kl:Nat) (c c2:Nat→Nat) (R R2:Nat→Nat→Int) (x:Nat→Int) (cc:Int) (xp xl_:Nat→Int) (hra:Mi m c R ra X0 w) (hqa:Li kx x qa X0 w) (hrb:Mi m2 c2 R2 rb X0 w) (hpb:Li kp xp pb X0 w) (hla:Li kl xl_ la X0 w) (rgR0:∀ i j,i < m→j < c i→-9223372036854775808≤R i j∧R i j≤9223372036854775807) (rgx0:∀ i,i < kx→-9223372036854775808≤x i∧x i≤9223372036854775807) (hcc:-9223372036854775808≤cc∧cc≤9223372036854775807) (rgG0:∀ i j,i < m2→j < c2 i→-9223372036854775808≤R2 i j∧R2 i j≤9223372036854775807) (rgp0:∀ i,i < kp→-9223372036854775808≤xp i∧xp i≤9223372036854775807) (rgl0:∀ i,i < kl→-9223372036854775808≤xl_ i∧xl_ i≤9223372036854775807) (k r n2:Nat) (hnm:k+r≤m) (hmin:(((m:Nat):Int)≤((6:Nat):Int)∧((k+r:Nat):Int)=((m:Nat):Int))∨(((6:Nat):Int) < ((m:Nat):Int)∧((k+r:Nat):Int)=((6:Nat):Int))) (hnu:k+r≤6) (hnm2:n2≤m2) (hmin2:(((m2:Nat):Int)≤((r:Nat):Int)∧((n2:Nat):Int)=((m2:Nat):Int))∨(((r:Nat):Int) < ((m2:Nat):Int)∧((n2:Nat):Int)=((r:Nat):Int))) (hnu2:n2≤r) (hne:n2 ≠ r):Calls Tryz.prog 3 #[ra.v,qa.v,.int .i64 cc,rb.v,pb.v,la.v,.int .i64 ((k:Nat):Int)] w (PVal (.bool true) w):=by
 have rgR:=Lib.hid rgR0
 clear rgR0
 have rgx:=Lib.hid rgx0
 clear rgx0
 have rgG:=Lib.hid rgG0
 clear rgG0
 have rgp:=Lib.hid rgp0
 clear rgp0
 have rgl:=Lib.hid rgl0
 clear rgl0
 have BPm:∀ i j,i < k+r→j < k+r→Sz 2 (mir c R i j):=(fun (i j:Nat) hi hj=>sz_int (mir_in rgR.out (Nat.lt_of_lt_of_le hi hnm) (Nat.lt_of_lt_of_le hj hnm)).1 (mir_in rgR.out (Nat.lt_of_lt_of_le hi hnm) (Nat.lt_of_lt_of_le hj hnm)).2)
 have BQm:∀ i,i < k+r→Sz 2 (xl kx x i):=fun i _=>xl_in rgx.out i
 have BCm:Sz 2 cc:=sz_int hcc.1 hcc.2
 have BXm:∀ i,Sz 2 (xl kl xl_ i):=fun i=>xl_in rgl.out i
 have BGm:∀ i j,i < n2→j < n2→Sz 2 (mir c2 R2 i j):=(fun (i j:Nat) hi hj=>sz_int (mir_in rgG.out (Nat.lt_of_lt_of_le hi hnm2) (Nat.lt_of_lt_of_le hj hnm2)).1 (mir_in rgG.out (Nat.lt_of_lt_of_le hi hnm2) (Nat.lt_of_lt_of_le hj hnm2)).2)
 have BUm:∀ i,i < n2→Sz 2 (xl kp xp i):=fun i _=>xl_in rgp.out i
 have hcz:-9223372036854775808≤(0:Int)∧(0:Int)≤9223372036854775807:=by decide
 have hZ0:=zs_start hX
 have hZ1:=hZ0.more (f:=Li kl xl_ la) (Li.stb _ _ _) hla
 clear hZ0
 have hZ2:=hZ1.more (f:=Li kp xp pb) (Li.stb _ _ _) hpb
 clear hZ1
 have hZ3:=hZ2.more (f:=Mi m2 c2 R2 rb) (Mi.stb _ _ _ _) hrb
 clear hZ2
 have hZ4:=hZ3.more (f:=Li kx x qa) (Li.stb _ _ _) hqa
 clear hZ3
 have hZ5:=hZ4.more (f:=Mi m c R ra) (Mi.stb _ _ _ _) hra
 clear hZ4
 go_enter Tryz.func3,Tryz.ntmps3
 go_wp2_with fail
 refine (uAwake hZ5.nx).mono ?_
 rintro zz W1 ⟨rfl,hB⟩
 have hZ6:=hZ5.later hB
 clear hB hZ5
 go_wp2_with fail
 refine (uRead hZ6.nx ra qa 6 (k+r) (hZ6.get 0 (f:=Mi m c R ra) rfl) (hZ6.get 1 (f:=Li kx x qa) rfl) rgR.out rgx.out hcc (by omega) hnm hmin).mono ?_
 rintro zz W2 ⟨pf,sf,cf,pfd,sfd,cfd,rfl,hi_pf,hi_sf,ez_cf,hi_cf,hi_pfd,hi_sfd,ez_cfd,hi_cfd,hB⟩
 have hZ7:=hZ6.later hB
 clear hB hZ6
 have hZ8:=hZ7.more (f:=Mt (k+r) (fun _=>k+r) (mir c R) pf) (Mt.stb _ _ _ _) hi_pf
 clear hZ7 hi_pf
 have hZ9:=hZ8.more (f:=Ls (k+r) (xl kx x) sf) (Ls.stb _ _ _) hi_sf
 clear hZ8 hi_sf
 have hZ10:=hZ9.more (f:=cf.is) cf.stb hi_cf
 clear hZ9 hi_cf
 have hZ11:=hZ10.more (f:=Mr (k+r) (fun _=>k+r) (mir c R) pfd) (Mr.stb _ _ _ _) hi_pfd
 clear hZ10 hi_pfd
 have hZ12:=hZ11.more (f:=Lr (k+r) (xl kx x) sfd) (Lr.stb _ _ _) hi_sfd
 clear hZ11 hi_sfd
 have hZ13:=hZ12.more (f:=cfd.ir) cfd.stbr hi_cfd
 clear hZ12 hi_cfd
 go_wp2_with (refine zsa 32 #[.slice none 0 0,.slice none 0 0,.bool false,.slice none 0 0] (.agg #[.slice none 0 0,.slice none 0 0,.bool false,.slice none 0 0]) rfl rfl zv32 rfl hZ13 (fun bk1 X14 W3 hZ14=>?_))
 clear hZ13
 simp only [Stop,Act.put,zzC,zzD,zzE]
 go_wp2_with (refine zsa 40 #[.slice none 0 0,.slice none 0 0,.bool false,.slice none 0 0] (.agg #[.slice none 0 0,.slice none 0 0,.bool false,.slice none 0 0]) rfl rfl zv40 rfl hZ14 (fun bk2 X15 W4 hZ15=>?_))
 clear hZ14
 simp only [Stop,Act.put,zzC,zzD,zzE]
 go_wp2_with (refine zss 32 (.tmp 16) (.tmp 43) 1 bk1 0 #[.slice none 0 0,.slice none 0 0,.bool false,.slice none 0 0] 32 4 [pf.v,sf.v,.bool cf.b,.slice cf.a cf.n cf.c] #[pf.v,sf.v,.bool cf.b,.slice cf.a cf.n cf.c] [(bk2,#[.slice none 0 0,.slice none 0 0,.bool false,.slice none 0 0],40),(bk1,#[pf.v,sf.v,.bool cf.b,.slice cf.a cf.n cf.c],32)] rfl rfl rfl rfl sz32 hZ15 rfl rfl (zzF (by kernel_rfl)) (by kernel_rfl) (by kernel_rfl) (by kernel_rfl) (fun W5 hZ16=>?_))
 clear hZ15
 simp only [Stop,Act.put,zzC,zzD,zzE]
 go_wp2_with (refine zss 40 (.tmp 17) (.tmp 44) 0 bk2 0 #[.slice none 0 0,.slice none 0 0,.bool false,.slice none 0 0] 40 4 [pfd.v,sfd.v,.bool cfd.b,.slice cfd.a cfd.n cfd.c] #[pfd.v,sfd.v,.bool cfd.b,.slice cfd.a cfd.n cfd.c] [(bk2,#[pfd.v,sfd.v,.bool cfd.b,.slice cfd.a cfd.n cfd.c],40),(bk1,#[pf.v,sf.v,.bool cf.b,.slice cf.a cf.n cf.c],32)] rfl rfl rfl rfl sz40 hZ16 rfl rfl (zzF (by kernel_rfl)) (by kernel_rfl) (by kernel_rfl) (by kernel_rfl) (fun W6 hZ17=>?_))
 clear hZ16
 simp only [Stop,Act.put,zzC,zzD,zzE]
 go_wp2_with (refine zsw (by kernel_rfl) (fun K hK=>wp_lssi (.tmp 49) (.const (.int .i64 0)) rfl rfl rfl (r:=false) (decide_eq_false (by omega)) (hK _ _ ?_)))
 simp only [Stop,Act.put,zzC,zzD,zzE]
 go_wp2_with (refine zsw (by kernel_rfl) (fun K hK=>wp_fda (v:=.pointer (some ⟨bk1,0,none⟩)) 32 (.tmp 16) 0 rfl rfl (fun _=>by kernel_rfl) (hK _ _ ?_)))
 simp only [Stop,Act.put,zzC,zzD,zzE]
 go_wp2_with (refine zsw (by kernel_rfl) (fun K hK=>wp_load1 (v:=pf.v) 26 (.tmp 54) rfl bk1 0 #[pf.v,sf.v,.bool cf.b,.slice cf.a cf.n cf.c] 32 (hZ17.es.at' _ (zzG (i:=1) rfl)) rfl ag26 (by kernel_rfl) (hK _ _ ?_)))
 simp only [Stop,Act.put,zzC,zzD,zzE]
 go_wp2_with (refine zsw (by kernel_rfl) (fun K hK=>wp_lenq (.tmp 55) 26 27 pf rfl (by kernel_rfl) rfl (hZ17.get 5 (f:=Mt (k+r) (fun _=>k+r) (mir c R) pf) rfl).n (hK _ _ ?_)))
 simp only [Stop,Act.put,zzC,zzD,zzE]
 go_wp2_with (refine zsw (by kernel_rfl) (fun K hK=>wp_gtri (.tmp 53) (.tmp 56) rfl rfl rfl (r:=false) (decide_eq_false (by omega)) (hK _ _ ?_)))
 simp only [Stop,Act.put,zzC,zzD,zzE]
 go_wp2_with (refine zso rfl (fun K hK=>wp_fda (v:=.pointer (some ⟨bk1,0,none⟩)) 32 (.tmp 16) 0 rfl rfl (fun _=>by kernel_rfl) (hK _ _ ?_)))
 simp only [Stop,Act.put,zzC,zzD,zzE]
 go_wp2_with (refine zso rfl (fun K hK=>wp_load1 (v:=pf.v) 26 (.tmp 63) rfl bk1 0 #[pf.v,sf.v,.bool cf.b,.slice cf.a cf.n cf.c] 32 (hZ17.es.at' _ (zzG (i:=1) rfl)) rfl ag26 (by kernel_rfl) (hK _ _ ?_)))
 simp only [Stop,Act.put,zzC,zzD,zzE]
 go_wp2_with (refine zso rfl (fun K hK=>wp_lenq (.tmp 64) 26 27 pf rfl (by kernel_rfl) rfl (hZ17.get 5 (f:=Mt (k+r) (fun _=>k+r) (mir c R) pf) rfl).n (hK _ _ ?_)))
 simp only [Stop,Act.put,zzC,zzD,zzE]
 go_wp2_with (refine zso rfl (fun K hK=>wp_subi (.tmp 65) (.tmp 66) rfl rfl rfl (C:=((r:Nat):Int)) (by omega) (by omega) (by omega) (hK _ _ ?_)))
 simp only [Stop,Act.put,zzC,zzD,zzE]
 go_wp2_with fail
 refine (uRead hZ17.nx rb pb r n2 (hZ17.get 8 (f:=Mi m2 c2 R2 rb) rfl) (hZ17.get 9 (f:=Li kp xp pb) rfl) rgG.out rgp.out hcz (by omega) hnm2 hmin2).mono ?_
 rintro zz W7 ⟨pg,sg,cg,pgd,sgd,cgd,rfl,hi_pg,hi_sg,ez_cg,hi_cg,hi_pgd,hi_sgd,ez_cgd,hi_cgd,hB⟩
 have hZ18:=hZ17.later hB
 clear hB hZ17
 have hZ19:=hZ18.more (f:=Mt n2 (fun _=>n2) (mir c2 R2) pg) (Mt.stb _ _ _ _) hi_pg
 clear hZ18 hi_pg
 have hZ20:=hZ19.more (f:=Ls n2 (xl kp xp) sg) (Ls.stb _ _ _) hi_sg
 clear hZ19 hi_sg
 have hZ21:=hZ20.more (f:=cg.is) cg.stb hi_cg
 clear hZ20 hi_cg
 have hZ22:=hZ21.more (f:=Mr n2 (fun _=>n2) (mir c2 R2) pgd) (Mr.stb _ _ _ _) hi_pgd
 clear hZ21 hi_pgd
 have hZ23:=hZ22.more (f:=Lr n2 (xl kp xp) sgd) (Lr.stb _ _ _) hi_sgd
 clear hZ22 hi_sgd
 have hZ24:=hZ23.more (f:=cgd.ir) cgd.stbr hi_cgd
 clear hZ23 hi_cgd
 go_wp2_with (refine zsa 32 #[.slice none 0 0,.slice none 0 0,.bool false,.slice none 0 0] (.agg #[.slice none 0 0,.slice none 0 0,.bool false,.slice none 0 0]) rfl rfl zv32 rfl hZ24 (fun bk3 X25 W8 hZ25=>?_))
 clear hZ24
 simp only [Stop,Act.put,zzC,zzD,zzE]
 go_wp2_with (refine zsa 40 #[.slice none 0 0,.slice none 0 0,.bool false,.slice none 0 0] (.agg #[.slice none 0 0,.slice none 0 0,.bool false,.slice none 0 0]) rfl rfl zv40 rfl hZ25 (fun bk4 X26 W9 hZ26=>?_))
 clear hZ25
 simp only [Stop,Act.put,zzC,zzD,zzE]
 go_wp2_with (refine zss 32 (.tmp 19) (.tmp 69) 1 bk3 0 #[.slice none 0 0,.slice none 0 0,.bool false,.slice none 0 0] 32 4 [pg.v,sg.v,.bool cg.b,.slice cg.a cg.n cg.c] #[pg.v,sg.v,.bool cg.b,.slice cg.a cg.n cg.c] [(bk4,#[.slice none 0 0,.slice none 0 0,.bool false,.slice none 0 0],40),(bk3,#[pg.v,sg.v,.bool cg.b,.slice cg.a cg.n cg.c],32),(bk2,#[pfd.v,sfd.v,.bool cfd.b,.slice cfd.a cfd.n cfd.c],40),(bk1,#[pf.v,sf.v,.bool cf.b,.slice cf.a cf.n cf.c],32)] rfl rfl rfl rfl sz32 hZ26 rfl rfl (zzF (by kernel_rfl)) (by kernel_rfl) (by kernel_rfl) (by kernel_rfl) (fun W10 hZ27=>?_))
 clear hZ26
 simp only [Stop,Act.put,zzC,zzD,zzE]
 go_wp2_with (refine zss 40 (.tmp 20) (.tmp 70) 0 bk4 0 #[.slice none 0 0,.slice none 0 0,.bool false,.slice none 0 0] 40 4 [pgd.v,sgd.v,.bool cgd.b,.slice cgd.a cgd.n cgd.c] #[pgd.v,sgd.v,.bool cgd.b,.slice cgd.a cgd.n cgd.c] [(bk4,#[pgd.v,sgd.v,.bool cgd.b,.slice cgd.a cgd.n cgd.c],40),(bk3,#[pg.v,sg.v,.bool cg.b,.slice cg.a cg.n cg.c],32),(bk2,#[pfd.v,sfd.v,.bool cfd.b,.slice cfd.a cfd.n cfd.c],40),(bk1,#[pf.v,sf.v,.bool cf.b,.slice cf.a cf.n cf.c],32)] rfl rfl rfl rfl sz40 hZ27 rfl rfl (zzF (by kernel_rfl)) (by kernel_rfl) (by kernel_rfl) (by kernel_rfl) (fun W11 hZ28=>?_))
 clear hZ27
 simp only [Stop,Act.put,zzC,zzD,zzE]
 go_wp2_with (refine zsw (by kernel_rfl) (fun K hK=>wp_fda (v:=.pointer (some ⟨bk3,0,none⟩)) 32 (.tmp 19) 0 rfl rfl (fun _=>by kernel_rfl) (hK _ _ ?_)))
 simp only [Stop,Act.put,zzC,zzD,zzE]
 go_wp2_with (refine zsw (by kernel_rfl) (fun K hK=>wp_load1 (v:=pg.v) 26 (.tmp 75) rfl bk3 0 #[pg.v,sg.v,.bool cg.b,.slice cg.a cg.n cg.c] 32 (hZ28.es.at' _ (zzG (i:=1) rfl)) rfl ag26 (by kernel_rfl) (hK _ _ ?_)))
 simp only [Stop,Act.put,zzC,zzD,zzE]
 go_wp2_with (refine zsw (by kernel_rfl) (fun K hK=>wp_lenq (.tmp 76) 26 27 pg rfl (by kernel_rfl) rfl (hZ28.get 5 (f:=Mt n2 (fun _=>n2) (mir c2 R2) pg) rfl).n (hK _ _ ?_)))
 simp only [Stop,Act.put,zzC,zzD,zzE]
 go_wp2_with (refine zsw (by kernel_rfl) (fun K hK=>wp_fda (v:=.pointer (some ⟨bk1,0,none⟩)) 32 (.tmp 16) 0 rfl rfl (fun _=>by kernel_rfl) (hK _ _ ?_)))
 simp only [Stop,Act.put,zzC,zzD,zzE]
 go_wp2_with (refine zsw (by kernel_rfl) (fun K hK=>wp_load1 (v:=pf.v) 26 (.tmp 78) rfl bk1 0 #[pf.v,sf.v,.bool cf.b,.slice cf.a cf.n cf.c] 32 (hZ28.es.at' _ (zzG (i:=3) rfl)) rfl ag26 (by kernel_rfl) (hK _ _ ?_)))
 simp only [Stop,Act.put,zzC,zzD,zzE]
 go_wp2_with (refine zsw (by kernel_rfl) (fun K hK=>wp_lenq (.tmp 79) 26 27 pf rfl (by kernel_rfl) rfl (hZ28.get 11 (f:=Mt (k+r) (fun _=>k+r) (mir c R) pf) rfl).n (hK _ _ ?_)))
 simp only [Stop,Act.put,zzC,zzD,zzE]
 go_wp2_with (refine zsw (by kernel_rfl) (fun K hK=>wp_subi (.tmp 80) (.tmp 81) rfl rfl rfl (C:=((r:Nat):Int)) (by omega) (by omega) (by omega) (hK _ _ ?_)))
 simp only [Stop,Act.put,zzC,zzD,zzE]
 go_wp2_with (refine zsw (by kernel_rfl) (fun K hK=>wp_neqi (.tmp 77) (.tmp 82) 3 3 rfl rfl rfl rfl (r:=true) (decide_eq_true (by omega)) (hK _ _ ?_)))
 simp only [Stop,Act.put,zzC,zzD,zzE]
 go_wp2
 go_ret
 exact ⟨rfl,hZ28.below⟩
end Go.Proofs.YtjclllindbfmhabGreatDoor
