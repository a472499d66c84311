/- Parts of the proof. -/
import Derived.Test.YtjclllindbfmhaaGreatDoorHn0
import Derived.Test.YtjclllindbfmhaaGreatDoorHn32
import Derived.Test.YtjclllindbfmhaaGreatDoorHn28
import Derived.Test.YtjclllindbfmhaaGreatDoorHn27
import Derived.Test.YtjclllindbfmhaaGreatDoorHn23
set_option linter.unusedSimpArgs false
set_option linter.unusedVariables false
namespace Go.Proofs.YtjclllindbfmhaaGreatDoor
/- The document's Solve, walked. No statement of the seat is proved here. -/
open Go Go.RowKit
theorem clx_sz {n e:Nat} {B:Nat→Nat→Int} {b:Nat→Int} (bB:∀ i j,i < n→j < n→Sz e (B i j)) (bb:∀ i,i < n→Sz e (b i)) (k:Nat):∀ i j,i < n→j < n→Sz e (M.cl' B k b i j):=fun i j hi hj=>by
 unfold M.cl'
 split
 ·
  exact bb i hi
 ·
  exact bB i j hi hj
set_option maxRecDepth 100000 in
set_option maxHeartbeats 12800000 in
theorem dSolve {X0:Nat→Prop} {w:World} (hX:NX X0 w) (a bs:Sl) {n e:Nat} {B:Nat→Nat→Int} {b:Nat→Int} (he1:1≤e) (he:e≤200) (hn:n≤12) (ha:Mr n (fun _=>n) B a X0 w) (hb_:Lr n b bs X0 w) (bB:∀ i j,i < n→j < n→Sz e (B i j)) (bb:∀ i,i < n→Sz e (b i)):Calls Tryz.prog 70 #[a.v,bs.v] w (PLXr X0 n (crx n B b) w):=by
 have hdb:dtb e n≤3000:=dtb_le he hn
 have hZ0:=zs_start hX
 have hZ1:=hZ0.more (f:=Lr n b bs) (Lr.stb _ _ _) hb_
 clear hZ0
 have hZ2:=hZ1.more (f:=Mr n (fun _=>n) B a) (Mr.stb _ _ _ _) ha
 clear hZ1
 go_enter Tryz.func70,Tryz.ntmps70
 have hZ3:=hZ2.only [Mr n (fun _=>n) B a,Lr n b bs] (by simp)
 clear hZ2
 go_wp2
 go_loopw [5,6] (fun ov kv wr=>∃ (kk:Nat) (so:Sl) (Co:Array Value) (X:Nat→Prop),kk≤n∧kv=.int .i64 ((kk:Nat):Int)∧ov=so.v∧so.n=kk∧Wr 2 so Co∧Zs w wr X0 X ([]++owl so Co 43) [Fl 2 (ENr (crx n B b)) kk Co,Mr n (fun _=>n) B a,Lr n b bs]) (fun _ iv _=>n - (intOf iv).toNat)
 case atStart=>exact ⟨0,slz,#[],_,by omega,rfl,rfl,rfl,wr_slz 2,by simpa [owl,slz] using (hZ3.more (f:=Fl 2 (ENr (crx n B b)) 0 #[]) (Fl.stb (ENr.stb _) _ _) (fl_zero 2 (ENr (crx n B b)) #[] _ _))⟩
 case round =>
  clear hZ3
  obtain ⟨kk,so,Co,X,hk,rfl,rfl,hn_so,hw_so,hZ⟩:=hrel
  by_cases hlt:kk < n
  ·
   go_wp2_with (refine zso rfl (fun K hK=>wp_lenq (.tmp 11) 39 40 a rfl (by kernel_rfl) rfl (hZ.get 1 (f:=Mr n (fun _=>n) B a) rfl).n (hK _ _ ?_)))
   simp only [Stop,Act.put,zzC,zzD,zzE]
   go_wp2_with (refine zso rfl (fun K hK=>wp_lssi (.tmp 10) (.tmp 12) rfl rfl rfl (r:=true) (decide_eq_true (by omega)) (hK _ _ ?_)))
   simp only [Stop,Act.put,zzC,zzD,zzE]
   go_wp2
   obtain ⟨wo,rfl⟩:∃ wo:World,wo=wr:=⟨_,rfl⟩
   go_wp2
   go_loopw [7,8] (fun mv iv wr=>∃ (i:Nat) (sm:Sl) (Cm:Array Value) (X:Nat→Prop),i≤n∧iv=.int .i64 ((i:Nat):Int)∧mv=sm.v∧sm.n=i∧Wr 1 sm Cm∧Zs w wr X0 X ([]++(owl so Co 43++owl sm Cm 40)) [Fl 1 (ERr (fun _=>n) (M.cl' B kk b)) i Cm,Fl 2 (ENr (crx n B b)) kk Co,Mr n (fun _=>n) B a,Lr n b bs]) (fun _ iv _=>n - (intOf iv).toNat)
   case atStart=>exact ⟨0,slz,#[],_,by omega,rfl,rfl,rfl,wr_slz 1,by simpa [owl,slz] using (hZ.more (f:=Fl 1 (ERr (fun _=>n) (M.cl' B kk b)) 0 #[]) (Fl.stb (ERr.stb _ _) _ _) (fl_zero 1 (ERr (fun _=>n) (M.cl' B kk b)) #[] _ _))⟩
   case round =>
    clear hZ
    obtain ⟨i,sm,Cm,Xi,hi,rfl,rfl,hn_sm,hw_sm,hZi⟩:=hrel
    by_cases hli:i < n
    ·
     go_wp2_with (refine zso rfl (fun K hK=>wp_lenq (.tmp 17) 39 40 a rfl (by kernel_rfl) rfl (hZi.get 2 (f:=Mr n (fun _=>n) B a) rfl).n (hK _ _ ?_)))
     simp only [Stop,Act.put,zzC,zzD,zzE]
     go_wp2_with (refine zso rfl (fun K hK=>wp_lssi (.tmp 16) (.tmp 18) rfl rfl rfl (r:=true) (decide_eq_true (by omega)) (hK _ _ ?_)))
     simp only [Stop,Act.put,zzC,zzD,zzE]
     go_wp2_with (refine zso rfl (fun K hK=>wp_bs0 ei40 rfl hZi (fun b01 W1 hZ4=>hK _ _ ?_)))
     simp only [Stop,Act.put,zzC,zzD,zzE]
     clear hZi
     go_wp2_with (refine zso rfl (fun K hK=>wp_ixs 39 (.tmp 23) (.tmp 24) a i 1 40 rfl rfl rfl (by kernel_rfl) sz40 (fun h=>((hZ4.get 2 (f:=Mr n (fun _=>n) B a) rfl).sq.nil h).1) ((hZ4.get 2 (f:=Mr n (fun _=>n) B a) rfl).n ▸ (by omega)) (hK _ _ ?_)))
     simp only [Stop,Act.put,zzC,zzD,zzE]
     go_wp2_with (refine zso rfl (fun K hK=>wp_ldmr 40 (.tmp 25) a i n (fun _=>n) B rfl rfl (hZ4.get 2 (f:=Mr n (fun _=>n) B a) rfl) (by omega) ag40 (fun s2 hi_s2=>hK _ _ ?_)))
     simp only [Stop,Act.put,zzC,zzD,zzE]
     have hZ5:=hZ4.more (f:=Lr n (B i) s2) (Lr.stb _ _ _) hi_s2
     clear hZ4 hi_s2
     go_wp2_with (refine zso rfl (fun K hK=>wp_spreadr ei40 (.tmp 22) (.tmp 26) rfl b01 rfl (s:=s2) rfl (hZ5.get 0 (f:=Lr n (B i) s2) rfl) (by omega) (by omega) hZ5 (fun o3 C3 X6 W2 hn_o3 hw_o3 hZ6=>hK _ _ ?_)))
     simp only [Stop,Act.put,zzC,zzD,zzE]
     have hZ7:=hZ6.perm (perm_mid _ _ _)
     clear hZ6 hZ5
     go_wp2_with (refine zso rfl (fun K hK=>wp_ixs 40 (.tmp 30) (.tmp 31) bs i 2 43 rfl rfl rfl (by kernel_rfl) sz43 (fun h=>((hZ7.get 5 (f:=Lr n b bs) rfl).sq.nil h).1) ((hZ7.get 5 (f:=Lr n b bs) rfl).n ▸ (by omega)) (hK _ _ ?_)))
     simp only [Stop,Act.put,zzC,zzD,zzE]
     go_wp2_with (refine zso rfl (fun K hK=>wp_ldnr 43 (.tmp 32) bs i n b rfl rfl (hZ7.get 5 (f:=Lr n b bs) rfl) (by omega) ag43 sz43 (fun q4 ez_q4 hi_q4=>hK _ _ ?_)))
     simp only [Stop,Act.put,zzC,zzD,zzE]
     have hZ8:=hZ7.more (f:=q4.ir) q4.stbr hi_q4
     clear hZ7 hi_q4
     go_wp2_with (refine zso rfl (fun K hK=>wp_ixs 40 (.tmp 28) (.tmp 29) o3 kk 2 43 rfl rfl rfl (by kernel_rfl) sz43 hw_o3.nil (by rw [hn_o3]; omega) (hK _ _ ?_)))
     simp only [Stop,Act.put,zzC,zzD,zzE]
     have hZ9y:=hZ8.perm (perm_mid _ _ _)
     go_wp2_with (refine stopz_put 43 (.tmp 34) (.tmp 33) o3 C3 kk [.bool q4.b,.slice q4.a q4.n q4.c] rfl rfl rfl rfl sz43 rfl (by kernel_rfl) hw_o3 (by rw [hn_o3]; omega) hZ9y (fun C5 W3 hw_o3n hg_C5 ho_C5 hZ9x=>?_))
     clear hZ9y hw_o3
     have hw_o3:=hw_o3n
     clear hw_o3n
     have hZ9:=hZ9x.perm (List.Perm.symm (perm_mid _ _ _))
     clear hZ9x hZ8
     simp only [Stop,Act.put,zzC,zzD,zzE]
     have hZ10r:Fl 2 (ENr ((M.cl' B kk b) i)) n C5 X6 W3:=Fl.put (hZ9.get 1 (f:=Fl 2 (ENr (B i)) n C3) rfl) (cs:=[.bool q4.b,.slice q4.a q4.n q4.c]) rfl hg_C5 ho_C5 ⟨q4,ez_q4.trans (by unfold M.cl'; rw [if_pos rfl]),(hZ9.get 0 (f:=q4.ir) rfl),rfl⟩ (fun m cs _ hne ⟨p,h1,h2,h3⟩=>⟨p,h1.trans (by unfold M.cl'; rw [if_neg hne]),h2,h3⟩)
     obtain ⟨X11,hZ11⟩:=Zs.tellr (hZ9.perm (perm_mid _ _ _)) hX hw_o3 hn_o3 hZ10r
     clear hZ9 hZ10r
     go_wp2_with (refine zso rfl (fun K hK=>wp_bs1 ei39 (.tmp 36) rfl rfl rfl (hK _ _ ?_)))
     simp only [Stop,Act.put,zzC,zzD,zzE]
     have hZ12:=hZ11.later (below_new _ (.cells #[o3.v] 40))
     clear hZ11
     have hZ13y:=hZ12.perm ((List.Perm.append_left _ List.perm_append_comm).trans (perm_mid _ _ _))
     go_wp2_with (refine zso rfl (fun K hK=>wp_app ei39 (.tmp 35) (.tmp 37) rfl (s:=sm) rfl ⟨W3.heap.size,0,none⟩ 1 rfl hw_sm (by rw [hn_sm]; omega) hZ13y [o3.v] rfl (cell_one _ o3.v _) (fun u hu=>by simp only [List.mem_cons,List.not_mem_nil,or_false] at hu; subst hu; rfl) (fun o6 C6 X13 W4 hn_o6 hw_o6 ho_C6 hg_C6 hZ13x=>hK _ _ ?_)))
     simp only [Stop,Act.put,zzC,zzD,zzE]
     clear hZ13y
     rw [hn_sm] at hn_o6 ho_C6 hg_C6
     have hZ13:=hZ13x.perm (List.Perm.symm ((List.Perm.append_left _ List.perm_append_comm).trans (perm_mid _ _ _)))
     clear hZ13x hZ12
     have hZ14s:Fl 1 (ERr (fun _=>n) (M.cl' B kk b)) (i+1) C6 X13 W4:=Fl.snoc (C:=Cm) (hZ13.get 4 (f:=Fl 1 (ERr (fun _=>n) (M.cl' B kk b)) i Cm) rfl) (cs:=[o3.v]) rfl ho_C6 hg_C6 ⟨o3,(hZ13.get 0 (f:=Lr n ((M.cl' B kk b) i) o3) rfl),rfl⟩
     have hZ14:=(hZ13.more (Fl.stb (ERr.stb _ _) _ _) hZ14s).only [Fl 1 (ERr (fun _=>n) (M.cl' B kk b)) (i+1) C6,Fl 2 (ENr (crx n B b)) kk Co,Mr n (fun _=>n) B a,Lr n b bs] (by simp)
     clear hZ13 hZ14s
     go_wp2_with (refine zso rfl (fun K hK=>wp_addi (.tmp 20) (.const (.int .i64 1)) rfl rfl rfl (C:=((i+1:Nat):Int)) (by omega) (by omega) (by omega) (hK _ _ ?_)))
     simp only [Stop,Act.put,zzC,zzD,zzE]
     go_wp2
     go_roundw
     case rel=>exact ⟨i+1,o6,C6,_,by omega,by go_num,rfl,hn_o6,hw_o6,hZ14⟩
     case measure=>simp [intOf]; omega
    ·
     obtain rfl:n=i:=by omega
     go_wp2_with (refine zso rfl (fun K hK=>wp_lenq (.tmp 17) 39 40 a rfl (by kernel_rfl) rfl (hZi.get 2 (f:=Mr n (fun _=>n) B a) rfl).n (hK _ _ ?_)))
     simp only [Stop,Act.put,zzC,zzD,zzE]
     go_wp2_with (refine zso rfl (fun K hK=>wp_lssi (.tmp 16) (.tmp 18) rfl rfl rfl (r:=false) (decide_eq_false (Int.lt_irrefl _)) (hK _ _ ?_)))
     simp only [Stop,Act.put,zzC,zzD,zzE]
     have hZ15r:=(hZi.get 0 (f:=Fl 1 (ERr (fun _=>n) (M.cl' B kk b)) n Cm) rfl)
     obtain ⟨X16,hZ16⟩:=Zs.tellm (hZi.perm ((List.Perm.append_left _ List.perm_append_comm).trans (perm_mid _ _ _))) hX hw_sm hn_sm hZ15r
     clear hZi hZ15r
     have hZ17:=hZ16.only [Mr n (fun _=>n) (M.cl' B kk b) sm,Fl 2 (ENr (crx n B b)) kk Co,Mr n (fun _=>n) B a,Lr n b bs] (by simp)
     clear hZ16
     go_wp2_with fail
     refine (dDet (e:=e) he1 he n (by omega) _ _ hZ17.nx sm _ (hZ17.get 0 (f:=Mr n (fun _=>n) (M.cl' B kk b) sm) rfl) (clx_sz bB bb _)).mono ?_
     rintro zz W5 ⟨q7,rfl,ez_q7,hi_q7,hB⟩
     have hZ18:=hZ17.later hB
     clear hB hZ17
     have hZ19:=hZ18.more (f:=q7.ir) q7.stbr hi_q7
     clear hZ18 hi_q7
     go_wp2_with (refine zso rfl (fun K hK=>wp_bs2 ei40 (.tmp 41) rfl rfl (hK _ _ ?_)))
     simp only [Stop,Act.put,zzC,zzD,zzE]
     have hZ20:=hZ19.later (below_new _ (.cells #[.bool q7.b,.slice q7.a q7.n q7.c] 43))
     clear hZ19
     have hZ21y:=hZ20.perm List.perm_append_comm
     go_wp2_with (refine zso rfl (fun K hK=>wp_app ei40 (.tmp 39) (.tmp 42) rfl (s:=so) rfl ⟨W5.heap.size,0,none⟩ 1 rfl hw_so (by rw [hn_so]; omega) hZ21y [.bool q7.b,.slice q7.a q7.n q7.c] rfl (cell_two _ (.bool q7.b) (.slice q7.a q7.n q7.c) _) (fun u hu=>by simp only [List.mem_cons,List.not_mem_nil,or_false] at hu; rcases hu with rfl | rfl <;> rfl) (fun o8 C8 X21 W6 hn_o8 hw_o8 ho_C8 hg_C8 hZ21x=>hK _ _ ?_)))
     simp only [Stop,Act.put,zzC,zzD,zzE]
     clear hZ21y
     rw [hn_so] at hn_o8 ho_C8 hg_C8
     have hZ21:=hZ21x.perm List.perm_append_comm
     clear hZ21x hZ20
     have hZ22s:Fl 2 (ENr (crx n B b)) (kk+1) C8 X21 W6:=Fl.snoc (C:=Co) (hZ21.get 2 (f:=Fl 2 (ENr (crx n B b)) kk Co) rfl) (cs:=[.bool q7.b,.slice q7.a q7.n q7.c]) rfl ho_C8 hg_C8 ⟨q7,ez_q7,(hZ21.get 0 (f:=q7.ir) rfl),rfl⟩
     have hZ22:=(hZ21.more (Fl.stb (ENr.stb _) _ _) hZ22s).only [Fl 2 (ENr (crx n B b)) (kk+1) C8,Mr n (fun _=>n) B a,Lr n b bs] (by simp)
     clear hZ21 hZ22s
     go_wp2_with (refine zso rfl (fun K hK=>wp_addi (.tmp 14) (.const (.int .i64 1)) rfl rfl rfl (C:=((kk+1:Nat):Int)) (by omega) (by omega) (by omega) (hK _ _ ?_)))
     simp only [Stop,Act.put,zzC,zzD,zzE]
     go_wp2
     go_roundw
     case rel=>exact ⟨kk+1,o8,C8,_,by omega,by go_num,rfl,hn_o8,hw_o8,hZ22⟩
     case measure=>simp [intOf]; omega
  ·
   obtain rfl:n=kk:=by omega
   go_wp2_with (refine zso rfl (fun K hK=>wp_lenq (.tmp 11) 39 40 a rfl (by kernel_rfl) rfl (hZ.get 1 (f:=Mr n (fun _=>n) B a) rfl).n (hK _ _ ?_)))
   simp only [Stop,Act.put,zzC,zzD,zzE]
   go_wp2_with (refine zso rfl (fun K hK=>wp_lssi (.tmp 10) (.tmp 12) rfl rfl rfl (r:=false) (decide_eq_false (Int.lt_irrefl _)) (hK _ _ ?_)))
   simp only [Stop,Act.put,zzC,zzD,zzE]
   go_wp2
   go_ret
   exact ⟨so,rfl,⟨hn_so,hZ.sq hX (ENr.stb _) hw_so (T:=43) (fun p hp=>hp) (hn_so ▸ hZ.get 0 (f:=Fl 2 (ENr (crx n B b)) n Co) rfl)⟩,hZ.below⟩
set_option maxRecDepth 100000 in
set_option maxHeartbeats 12800000 in
theorem dOf {X0:Nat→Prop} {w:World} (hX:NX X0 w) (rs:Sl) {m:Nat} {c:Nat→Nat} {R:Nat→Nat→Int} (hr:Mi m c R rs X0 w) (hm:m≤100) (hc:∀ i,i < m→c i≤100) (hR:∀ i j,i < m→j < c i→-9223372036854775808≤R i j∧R i j≤9223372036854775807):Calls Tryz.prog 44 #[rs.v] w (PMXr X0 m c R w):=by
 have hZ0:=zs_start hX
 have hZ1:=hZ0.more (f:=Mi m c R rs) (Mi.stb _ _ _ _) hr
 clear hZ0
 go_enter Tryz.func44,Tryz.ntmps44
 go_wp2
 go_loopw [3,4] (fun ov iv wr=>∃ (i:Nat) (so:Sl) (Co:Array Value) (X:Nat→Prop),i≤m∧iv=.int .i64 ((i:Nat):Int)∧ov=so.v∧so.n=i∧Wr 1 so Co∧Zs w wr X0 X ([]++owl so Co 40) [Fl 1 (ERr c R) i Co,Mi m c R rs]) (fun _ iv _=>m - (intOf iv).toNat)
 case atStart=>exact ⟨0,slz,#[],_,by omega,rfl,rfl,rfl,wr_slz 1,by simpa [owl,slz] using (hZ1.more (f:=Fl 1 (ERr c R) 0 #[]) (Fl.stb (ERr.stb _ _) _ _) (fl_zero 1 (ERr c R) #[] _ _))⟩
 case round =>
  obtain ⟨i,so,Co,X,hi,rfl,rfl,hn_so,hw_so,hZ⟩:=hrel
  by_cases hlt:i < m
  ·
   go_wp2_with (refine zso rfl (fun K hK=>wp_lenq (.tmp 8) 22 23 rs rfl (by kernel_rfl) rfl (hZ.get 1 (f:=Mi m c R rs) rfl).n (hK _ _ ?_)))
   simp only [Stop,Act.put,zzC,zzD,zzE]
   go_wp2_with (refine zso rfl (fun K hK=>wp_lssi (.tmp 7) (.tmp 9) rfl rfl rfl (r:=true) (decide_eq_true (by omega)) (hK _ _ ?_)))
   simp only [Stop,Act.put,zzC,zzD,zzE]
   go_wp2
   obtain ⟨wo,rfl⟩:∃ wo:World,wo=wr:=⟨_,rfl⟩
   have hci:=hc i hlt
   go_wp2
   go_loopw [5,6] (fun rv jv wr=>∃ (j:Nat) (si:Sl) (Ci:Array Value) (X:Nat→Prop),j≤c i∧jv=.int .i64 ((j:Nat):Int)∧rv=si.v∧si.n=j∧Wr 2 si Ci∧Zs w wr X0 X ([]++(owl so Co 40++owl si Ci 43)) [Fl 2 (ENr (R i)) j Ci,Fl 1 (ERr c R) i Co,Mi m c R rs]) (fun _ iv _=>c i - (intOf iv).toNat)
   case atStart=>exact ⟨0,slz,#[],_,by omega,rfl,rfl,rfl,wr_slz 2,by simpa [owl,slz] using (hZ.more (f:=Fl 2 (ENr (R i)) 0 #[]) (Fl.stb (ENr.stb _) _ _) (fl_zero 2 (ENr (R i)) #[] _ _))⟩
   case round =>
    clear hZ
    obtain ⟨j,si,Ci,Xi,hj,rfl,rfl,hn_si,hw_si,hZi⟩:=hrel
    by_cases hlj:j < c i
    ·
     go_wp2_with (refine zso rfl (fun K hK=>wp_ixs 22 (.tmp 14) (.tmp 15) rs i 1 23 rfl rfl rfl (by kernel_rfl) sz23 (fun h=>((hZi.get 2 (f:=Mi m c R rs) rfl).sq.nil h).1) ((hZi.get 2 (f:=Mi m c R rs) rfl).n ▸ (by omega)) (hK _ _ ?_)))
     simp only [Stop,Act.put,zzC,zzD,zzE]
     go_wp2_with (refine zso rfl (fun K hK=>wp_ldim 23 (.tmp 16) rs i m c R rfl rfl (hZi.get 2 (f:=Mi m c R rs) rfl) (by omega) ag23 (fun s1 hi_s1=>hK _ _ ?_)))
     simp only [Stop,Act.put,zzC,zzD,zzE]
     have hZ2:=hZi.more (f:=Li (c i) (R i) s1) (Li.stb _ _ _) hi_s1
     clear hZi hi_s1
     go_wp2_with (refine zso rfl (fun K hK=>wp_lenq (.tmp 17) 23 2 s1 rfl (by kernel_rfl) rfl (hZ2.get 0 (f:=Li (c i) (R i) s1) rfl).n (hK _ _ ?_)))
     simp only [Stop,Act.put,zzC,zzD,zzE]
     go_wp2_with (refine zso rfl (fun K hK=>wp_lssi (.tmp 13) (.tmp 18) rfl rfl rfl (r:=true) (decide_eq_true (by omega)) (hK _ _ ?_)))
     simp only [Stop,Act.put,zzC,zzD,zzE]
     go_wp2_with (refine zso rfl (fun K hK=>wp_ixs 22 (.tmp 23) (.tmp 24) rs i 1 23 rfl rfl rfl (by kernel_rfl) sz23 (fun h=>((hZ2.get 3 (f:=Mi m c R rs) rfl).sq.nil h).1) ((hZ2.get 3 (f:=Mi m c R rs) rfl).n ▸ (by omega)) (hK _ _ ?_)))
     simp only [Stop,Act.put,zzC,zzD,zzE]
     go_wp2_with (refine zso rfl (fun K hK=>wp_ldim 23 (.tmp 25) rs i m c R rfl rfl (hZ2.get 3 (f:=Mi m c R rs) rfl) (by omega) ag23 (fun s2 hi_s2=>hK _ _ ?_)))
     simp only [Stop,Act.put,zzC,zzD,zzE]
     have hZ3:=hZ2.more (f:=Li (c i) (R i) s2) (Li.stb _ _ _) hi_s2
     clear hZ2 hi_s2
     go_wp2_with (refine zso rfl (fun K hK=>wp_ixs 23 (.tmp 26) (.tmp 27) s2 j 1 2 rfl rfl rfl (by kernel_rfl) sz2 (fun h=>((hZ3.get 0 (f:=Li (c i) (R i) s2) rfl).sq.nil h).1) ((hZ3.get 0 (f:=Li (c i) (R i) s2) rfl).n ▸ (by omega)) (hK _ _ ?_)))
     simp only [Stop,Act.put,zzC,zzD,zzE]
     go_wp2_with (refine zso rfl (fun K hK=>wp_ldi 2 (.tmp 28) s2 j (c i) (R i) rfl rfl (hZ3.get 0 (f:=Li (c i) (R i) s2) rfl) (by omega) ag2 (hK _ _ ?_)))
     simp only [Stop,Act.put,zzC,zzD,zzE]
     go_wp2_with fail
     refine (zOfr hZ3.nx (hR i j hlt hlj).1 (hR i j hlt hlj).2).mono ?_
     rintro zz W1 ⟨q3,rfl,ez_q3,hi_q3,hB⟩
     have hZ4:=hZ3.later hB
     clear hB hZ3
     have hZ5:=hZ4.more (f:=q3.ir) q3.stbr hi_q3
     clear hZ4 hi_q3
     go_wp2_with (refine zso rfl (fun K hK=>wp_bs2 ei40 (.tmp 30) rfl rfl (hK _ _ ?_)))
     simp only [Stop,Act.put,zzC,zzD,zzE]
     have hZ6:=hZ5.later (below_new _ (.cells #[.bool q3.b,.slice q3.a q3.n q3.c] 43))
     clear hZ5
     have hZ7y:=hZ6.perm ((List.Perm.append_left _ List.perm_append_comm).trans (perm_mid _ _ _))
     go_wp2_with (refine zso rfl (fun K hK=>wp_app ei40 (.tmp 22) (.tmp 31) rfl (s:=si) rfl ⟨W1.heap.size,0,none⟩ 1 rfl hw_si (by rw [hn_si]; omega) hZ7y [.bool q3.b,.slice q3.a q3.n q3.c] rfl (cell_two _ (.bool q3.b) (.slice q3.a q3.n q3.c) _) (fun u hu=>by simp only [List.mem_cons,List.not_mem_nil,or_false] at hu; rcases hu with rfl | rfl <;> rfl) (fun o4 C4 X7 W2 hn_o4 hw_o4 ho_C4 hg_C4 hZ7x=>hK _ _ ?_)))
     simp only [Stop,Act.put,zzC,zzD,zzE]
     clear hZ7y
     rw [hn_si] at hn_o4 ho_C4 hg_C4
     have hZ7:=hZ7x.perm (List.Perm.symm ((List.Perm.append_left _ List.perm_append_comm).trans (perm_mid _ _ _)))
     clear hZ7x hZ6
     have hZ8s:Fl 2 (ENr (R i)) (j+1) C4 X7 W2:=Fl.snoc (C:=Ci) (hZ7.get 3 (f:=Fl 2 (ENr (R i)) j Ci) rfl) (cs:=[.bool q3.b,.slice q3.a q3.n q3.c]) rfl ho_C4 hg_C4 ⟨q3,ez_q3,(hZ7.get 0 (f:=q3.ir) rfl),rfl⟩
     have hZ8:=(hZ7.more (Fl.stb (ENr.stb _) _ _) hZ8s).only [Fl 2 (ENr (R i)) (j+1) C4,Fl 1 (ERr c R) i Co,Mi m c R rs] (by simp)
     clear hZ7 hZ8s
     go_wp2_with (refine zso rfl (fun K hK=>wp_addi (.tmp 20) (.const (.int .i64 1)) rfl rfl rfl (C:=((j+1:Nat):Int)) (by omega) (by omega) (by omega) (hK _ _ ?_)))
     simp only [Stop,Act.put,zzC,zzD,zzE]
     go_wp2
     go_roundw
     case rel=>exact ⟨j+1,o4,C4,_,by omega,by go_num,rfl,hn_o4,hw_o4,hZ8⟩
     case measure=>simp [intOf]; omega
    ·
     obtain rfl:j=c i:=by omega
     go_wp2_with (refine zso rfl (fun K hK=>wp_ixs 22 (.tmp 14) (.tmp 15) rs i 1 23 rfl rfl rfl (by kernel_rfl) sz23 (fun h=>((hZi.get 2 (f:=Mi m c R rs) rfl).sq.nil h).1) ((hZi.get 2 (f:=Mi m c R rs) rfl).n ▸ (by omega)) (hK _ _ ?_)))
     simp only [Stop,Act.put,zzC,zzD,zzE]
     go_wp2_with (refine zso rfl (fun K hK=>wp_ldim 23 (.tmp 16) rs i m c R rfl rfl (hZi.get 2 (f:=Mi m c R rs) rfl) (by omega) ag23 (fun s5 hi_s5=>hK _ _ ?_)))
     simp only [Stop,Act.put,zzC,zzD,zzE]
     have hZ9:=hZi.more (f:=Li (c i) (R i) s5) (Li.stb _ _ _) hi_s5
     clear hZi hi_s5
     go_wp2_with (refine zso rfl (fun K hK=>wp_lenq (.tmp 17) 23 2 s5 rfl (by kernel_rfl) rfl (hZ9.get 0 (f:=Li (c i) (R i) s5) rfl).n (hK _ _ ?_)))
     simp only [Stop,Act.put,zzC,zzD,zzE]
     go_wp2_with (refine zso rfl (fun K hK=>wp_lssi (.tmp 13) (.tmp 18) rfl rfl rfl (r:=false) (decide_eq_false (Int.lt_irrefl _)) (hK _ _ ?_)))
     simp only [Stop,Act.put,zzC,zzD,zzE]
     have hZ10r:=(hZ9.get 1 (f:=Fl 2 (ENr (R i)) (c i) Ci) rfl)
     obtain ⟨X11,hZ11⟩:=Zs.tellr (hZ9.perm ((List.Perm.append_left _ List.perm_append_comm).trans (perm_mid _ _ _))) hX hw_si hn_si hZ10r
     clear hZ9 hZ10r
     go_wp2_with (refine zso rfl (fun K hK=>wp_bs1 ei39 (.tmp 34) rfl rfl rfl (hK _ _ ?_)))
     simp only [Stop,Act.put,zzC,zzD,zzE]
     have hZ12:=hZ11.later (below_new _ (.cells #[si.v] 40))
     clear hZ11
     have hZ13y:=hZ12.perm List.perm_append_comm
     go_wp2_with (refine zso rfl (fun K hK=>wp_app ei39 (.tmp 33) (.tmp 35) rfl (s:=so) rfl ⟨wr.heap.size,0,none⟩ 1 rfl hw_so (by rw [hn_so]; omega) hZ13y [si.v] rfl (cell_one _ si.v _) (fun u hu=>by simp only [List.mem_cons,List.not_mem_nil,or_false] at hu; subst hu; rfl) (fun o6 C6 X13 W3 hn_o6 hw_o6 ho_C6 hg_C6 hZ13x=>hK _ _ ?_)))
     simp only [Stop,Act.put,zzC,zzD,zzE]
     clear hZ13y
     rw [hn_so] at hn_o6 ho_C6 hg_C6
     have hZ13:=hZ13x.perm List.perm_append_comm
     clear hZ13x hZ12
     have hZ14s:Fl 1 (ERr c R) (i+1) C6 X13 W3:=Fl.snoc (C:=Co) (hZ13.get 3 (f:=Fl 1 (ERr c R) i Co) rfl) (cs:=[si.v]) rfl ho_C6 hg_C6 ⟨si,(hZ13.get 0 (f:=Lr (c i) (R i) si) rfl),rfl⟩
     have hZ14:=(hZ13.more (Fl.stb (ERr.stb _ _) _ _) hZ14s).only [Fl 1 (ERr c R) (i+1) C6,Mi m c R rs] (by simp)
     clear hZ13 hZ14s
     go_wp2_with (refine zso rfl (fun K hK=>wp_addi (.tmp 11) (.const (.int .i64 1)) rfl rfl rfl (C:=((i+1:Nat):Int)) (by omega) (by omega) (by omega) (hK _ _ ?_)))
     simp only [Stop,Act.put,zzC,zzD,zzE]
     go_wp2
     go_roundw
     case rel=>exact ⟨i+1,o6,C6,_,by omega,by go_num,rfl,hn_o6,hw_o6,hZ14⟩
     case measure=>simp [intOf]; omega
  ·
   obtain rfl:i=m:=by omega
   go_wp2_with (refine zso rfl (fun K hK=>wp_lenq (.tmp 8) 22 23 rs rfl (by kernel_rfl) rfl (hZ.get 1 (f:=Mi i c R rs) rfl).n (hK _ _ ?_)))
   simp only [Stop,Act.put,zzC,zzD,zzE]
   go_wp2_with (refine zso rfl (fun K hK=>wp_lssi (.tmp 7) (.tmp 9) rfl rfl rfl (r:=false) (decide_eq_false (Int.lt_irrefl _)) (hK _ _ ?_)))
   simp only [Stop,Act.put,zzC,zzD,zzE]
   go_wp2
   go_ret
   exact ⟨so,rfl,⟨hn_so,hZ.sq hX (ERr.stb _ _) hw_so (T:=40) (fun p hp=>hp) (hn_so ▸ hZ.get 0 (f:=Fl 1 (ERr c R) i Co) rfl)⟩,hZ.below⟩
end Go.Proofs.YtjclllindbfmhaaGreatDoor
