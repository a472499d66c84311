/- Parts of the proof. -/
import Derived.Test.YtjclllindbfmhabGreatDoorHs0
import Derived.Test.YtjclllindbfmhabGreatDoorHs26
import Derived.Test.YtjclllindbfmhabGreatDoorHs22
import Derived.Test.YtjclllindbfmhabGreatDoorHs30
import Derived.Test.YtjclllindbfmhabGreatDoorHs27
set_option linter.unusedSimpArgs false
set_option linter.unusedVariables false
namespace Go.Proofs.YtjclllindbfmhabGreatDoor
/- The document's Of, walked. No statement of the seat is proved here. -/
open Go Go.RowKit
set_option maxRecDepth 100000 in
set_option maxHeartbeats 12800000 in
theorem dOf {X0:Nat→Prop} {w:World} (hX:NX X0 w) (rs:Sl) {m:Nat} {c:Nat→Nat} {R:Nat→Nat→Int} (hr:Mi m c R rs X0 w) (hm:m≤100) (hc:∀ i,i < m→c i≤100) (hR:∀ i j,i < m→j < c i→-9223372036854775808≤R i j∧R i j≤9223372036854775807):Calls Tryz.prog 54 #[rs.v] w (PMXr X0 m c R w):=by
 have hZ0:=zs_start hX
 have hZ1:=hZ0.more (f:=Mi m c R rs) (Mi.stb _ _ _ _) hr
 clear hZ0
 go_enter Tryz.func54,Tryz.ntmps54
 go_wp2
 go_loopw [3,4] (fun ov iv wr=>∃ (i:Nat) (so:Sl) (Co:Array Value) (X:Nat→Prop),i≤m∧iv=.int .i64 ((i:Nat):Int)∧ov=so.v∧so.n=i∧Wr 1 so Co∧Zs w wr X0 X ([]++owl so Co 35) [Fl 1 (ERr c R) i Co,Mi m c R rs]) (fun _ iv _=>m - (intOf iv).toNat)
 case atStart=>exact ⟨0,slz,#[],_,by omega,rfl,rfl,rfl,wr_slz 1,by simpa [owl,slz] using (hZ1.more (f:=Fl 1 (ERr c R) 0 #[]) (Fl.stb (ERr.stb _ _) _ _) (fl_zero 1 (ERr c R) #[] _ _))⟩
 case round =>
  obtain ⟨i,so,Co,X,hi,rfl,rfl,hn_so,hw_so,hZ⟩:=hrel
  by_cases hlt:i < m
  ·
   go_wp2_with (refine zso rfl (fun K hK=>wp_lenq (.tmp 8) 22 23 rs rfl (by kernel_rfl) rfl (hZ.get 1 (f:=Mi m c R rs) rfl).n (hK _ _ ?_)))
   simp only [Stop,Act.put,zzC,zzD,zzE]
   go_wp2_with (refine zso rfl (fun K hK=>wp_lssi (.tmp 7) (.tmp 9) rfl rfl rfl (r:=true) (decide_eq_true (by omega)) (hK _ _ ?_)))
   simp only [Stop,Act.put,zzC,zzD,zzE]
   go_wp2
   obtain ⟨wo,rfl⟩:∃ wo:World,wo=wr:=⟨_,rfl⟩
   have hci:=hc i hlt
   go_wp2
   go_loopw [5,6] (fun rv jv wr=>∃ (j:Nat) (si:Sl) (Ci:Array Value) (X:Nat→Prop),j≤c i∧jv=.int .i64 ((j:Nat):Int)∧rv=si.v∧si.n=j∧Wr 2 si Ci∧Zs w wr X0 X ([]++(owl so Co 35++owl si Ci 38)) [Fl 2 (ENr (R i)) j Ci,Fl 1 (ERr c R) i Co,Mi m c R rs]) (fun _ iv _=>c i - (intOf iv).toNat)
   case atStart=>exact ⟨0,slz,#[],_,by omega,rfl,rfl,rfl,wr_slz 2,by simpa [owl,slz] using (hZ.more (f:=Fl 2 (ENr (R i)) 0 #[]) (Fl.stb (ENr.stb _) _ _) (fl_zero 2 (ENr (R i)) #[] _ _))⟩
   case round =>
    clear hZ
    obtain ⟨j,si,Ci,Xi,hj,rfl,rfl,hn_si,hw_si,hZi⟩:=hrel
    by_cases hlj:j < c i
    ·
     go_wp2_with (refine zso rfl (fun K hK=>wp_ixs 22 (.tmp 14) (.tmp 15) rs i 1 23 rfl rfl rfl (by kernel_rfl) sz23 (fun h=>((hZi.get 2 (f:=Mi m c R rs) rfl).sq.nil h).1) ((hZi.get 2 (f:=Mi m c R rs) rfl).n ▸ (by omega)) (hK _ _ ?_)))
     simp only [Stop,Act.put,zzC,zzD,zzE]
     go_wp2_with (refine zso rfl (fun K hK=>wp_ldim 23 (.tmp 16) rs i m c R rfl rfl (hZi.get 2 (f:=Mi m c R rs) rfl) (by omega) ag23 (fun s1 hi_s1=>hK _ _ ?_)))
     simp only [Stop,Act.put,zzC,zzD,zzE]
     have hZ2:=hZi.more (f:=Li (c i) (R i) s1) (Li.stb _ _ _) hi_s1
     clear hZi hi_s1
     go_wp2_with (refine zso rfl (fun K hK=>wp_lenq (.tmp 17) 23 2 s1 rfl (by kernel_rfl) rfl (hZ2.get 0 (f:=Li (c i) (R i) s1) rfl).n (hK _ _ ?_)))
     simp only [Stop,Act.put,zzC,zzD,zzE]
     go_wp2_with (refine zso rfl (fun K hK=>wp_lssi (.tmp 13) (.tmp 18) rfl rfl rfl (r:=true) (decide_eq_true (by omega)) (hK _ _ ?_)))
     simp only [Stop,Act.put,zzC,zzD,zzE]
     go_wp2_with (refine zso rfl (fun K hK=>wp_ixs 22 (.tmp 23) (.tmp 24) rs i 1 23 rfl rfl rfl (by kernel_rfl) sz23 (fun h=>((hZ2.get 3 (f:=Mi m c R rs) rfl).sq.nil h).1) ((hZ2.get 3 (f:=Mi m c R rs) rfl).n ▸ (by omega)) (hK _ _ ?_)))
     simp only [Stop,Act.put,zzC,zzD,zzE]
     go_wp2_with (refine zso rfl (fun K hK=>wp_ldim 23 (.tmp 25) rs i m c R rfl rfl (hZ2.get 3 (f:=Mi m c R rs) rfl) (by omega) ag23 (fun s2 hi_s2=>hK _ _ ?_)))
     simp only [Stop,Act.put,zzC,zzD,zzE]
     have hZ3:=hZ2.more (f:=Li (c i) (R i) s2) (Li.stb _ _ _) hi_s2
     clear hZ2 hi_s2
     go_wp2_with (refine zso rfl (fun K hK=>wp_ixs 23 (.tmp 26) (.tmp 27) s2 j 1 2 rfl rfl rfl (by kernel_rfl) sz2 (fun h=>((hZ3.get 0 (f:=Li (c i) (R i) s2) rfl).sq.nil h).1) ((hZ3.get 0 (f:=Li (c i) (R i) s2) rfl).n ▸ (by omega)) (hK _ _ ?_)))
     simp only [Stop,Act.put,zzC,zzD,zzE]
     go_wp2_with (refine zso rfl (fun K hK=>wp_ldi 2 (.tmp 28) s2 j (c i) (R i) rfl rfl (hZ3.get 0 (f:=Li (c i) (R i) s2) rfl) (by omega) ag2 (hK _ _ ?_)))
     simp only [Stop,Act.put,zzC,zzD,zzE]
     go_wp2_with fail
     refine (zOfr hZ3.nx (hR i j hlt hlj).1 (hR i j hlt hlj).2).mono ?_
     rintro zz W1 ⟨q3,rfl,ez_q3,hi_q3,hB⟩
     have hZ4:=hZ3.later hB
     clear hB hZ3
     have hZ5:=hZ4.more (f:=q3.ir) q3.stbr hi_q3
     clear hZ4 hi_q3
     go_wp2_with (refine zso rfl (fun K hK=>wp_bs2 ei35 (.tmp 30) rfl rfl (hK _ _ ?_)))
     simp only [Stop,Act.put,zzC,zzD,zzE]
     have hZ6:=hZ5.later (below_new _ (.cells #[.bool q3.b,.slice q3.a q3.n q3.c] 38))
     clear hZ5
     have hZ7y:=hZ6.perm ((List.Perm.append_left _ List.perm_append_comm).trans (perm_mid _ _ _))
     go_wp2_with (refine zso rfl (fun K hK=>wp_app ei35 (.tmp 22) (.tmp 31) rfl (s:=si) rfl ⟨W1.heap.size,0,none⟩ 1 rfl hw_si (by rw [hn_si]; omega) hZ7y [.bool q3.b,.slice q3.a q3.n q3.c] rfl (cell_two _ (.bool q3.b) (.slice q3.a q3.n q3.c) _) (fun u hu=>by simp only [List.mem_cons,List.not_mem_nil,or_false] at hu; rcases hu with rfl | rfl <;> rfl) (fun o4 C4 X7 W2 hn_o4 hw_o4 ho_C4 hg_C4 hZ7x=>hK _ _ ?_)))
     simp only [Stop,Act.put,zzC,zzD,zzE]
     clear hZ7y
     rw [hn_si] at hn_o4 ho_C4 hg_C4
     have hZ7:=hZ7x.perm (List.Perm.symm ((List.Perm.append_left _ List.perm_append_comm).trans (perm_mid _ _ _)))
     clear hZ7x hZ6
     have hZ8s:Fl 2 (ENr (R i)) (j+1) C4 X7 W2:=Fl.snoc (C:=Ci) (hZ7.get 3 (f:=Fl 2 (ENr (R i)) j Ci) rfl) (cs:=[.bool q3.b,.slice q3.a q3.n q3.c]) rfl ho_C4 hg_C4 ⟨q3,ez_q3,(hZ7.get 0 (f:=q3.ir) rfl),rfl⟩
     have hZ8:=(hZ7.more (Fl.stb (ENr.stb _) _ _) hZ8s).only [Fl 2 (ENr (R i)) (j+1) C4,Fl 1 (ERr c R) i Co,Mi m c R rs] (by simp)
     clear hZ7 hZ8s
     go_wp2_with (refine zso rfl (fun K hK=>wp_addi (.tmp 20) (.const (.int .i64 1)) rfl rfl rfl (C:=((j+1:Nat):Int)) (by omega) (by omega) (by omega) (hK _ _ ?_)))
     simp only [Stop,Act.put,zzC,zzD,zzE]
     go_wp2
     go_roundw
     case rel=>exact ⟨j+1,o4,C4,_,by omega,by go_num,rfl,hn_o4,hw_o4,hZ8⟩
     case measure=>simp [intOf]; omega
    ·
     obtain rfl:j=c i:=by omega
     go_wp2_with (refine zso rfl (fun K hK=>wp_ixs 22 (.tmp 14) (.tmp 15) rs i 1 23 rfl rfl rfl (by kernel_rfl) sz23 (fun h=>((hZi.get 2 (f:=Mi m c R rs) rfl).sq.nil h).1) ((hZi.get 2 (f:=Mi m c R rs) rfl).n ▸ (by omega)) (hK _ _ ?_)))
     simp only [Stop,Act.put,zzC,zzD,zzE]
     go_wp2_with (refine zso rfl (fun K hK=>wp_ldim 23 (.tmp 16) rs i m c R rfl rfl (hZi.get 2 (f:=Mi m c R rs) rfl) (by omega) ag23 (fun s5 hi_s5=>hK _ _ ?_)))
     simp only [Stop,Act.put,zzC,zzD,zzE]
     have hZ9:=hZi.more (f:=Li (c i) (R i) s5) (Li.stb _ _ _) hi_s5
     clear hZi hi_s5
     go_wp2_with (refine zso rfl (fun K hK=>wp_lenq (.tmp 17) 23 2 s5 rfl (by kernel_rfl) rfl (hZ9.get 0 (f:=Li (c i) (R i) s5) rfl).n (hK _ _ ?_)))
     simp only [Stop,Act.put,zzC,zzD,zzE]
     go_wp2_with (refine zso rfl (fun K hK=>wp_lssi (.tmp 13) (.tmp 18) rfl rfl rfl (r:=false) (decide_eq_false (Int.lt_irrefl _)) (hK _ _ ?_)))
     simp only [Stop,Act.put,zzC,zzD,zzE]
     have hZ10r:=(hZ9.get 1 (f:=Fl 2 (ENr (R i)) (c i) Ci) rfl)
     obtain ⟨X11,hZ11⟩:=Zs.tellr (hZ9.perm ((List.Perm.append_left _ List.perm_append_comm).trans (perm_mid _ _ _))) hX hw_si hn_si hZ10r
     clear hZ9 hZ10r
     go_wp2_with (refine zso rfl (fun K hK=>wp_bs1 ei34 (.tmp 34) rfl rfl rfl (hK _ _ ?_)))
     simp only [Stop,Act.put,zzC,zzD,zzE]
     have hZ12:=hZ11.later (below_new _ (.cells #[si.v] 35))
     clear hZ11
     have hZ13y:=hZ12.perm List.perm_append_comm
     go_wp2_with (refine zso rfl (fun K hK=>wp_app ei34 (.tmp 33) (.tmp 35) rfl (s:=so) rfl ⟨wr.heap.size,0,none⟩ 1 rfl hw_so (by rw [hn_so]; omega) hZ13y [si.v] rfl (cell_one _ si.v _) (fun u hu=>by simp only [List.mem_cons,List.not_mem_nil,or_false] at hu; subst hu; rfl) (fun o6 C6 X13 W3 hn_o6 hw_o6 ho_C6 hg_C6 hZ13x=>hK _ _ ?_)))
     simp only [Stop,Act.put,zzC,zzD,zzE]
     clear hZ13y
     rw [hn_so] at hn_o6 ho_C6 hg_C6
     have hZ13:=hZ13x.perm List.perm_append_comm
     clear hZ13x hZ12
     have hZ14s:Fl 1 (ERr c R) (i+1) C6 X13 W3:=Fl.snoc (C:=Co) (hZ13.get 3 (f:=Fl 1 (ERr c R) i Co) rfl) (cs:=[si.v]) rfl ho_C6 hg_C6 ⟨si,(hZ13.get 0 (f:=Lr (c i) (R i) si) rfl),rfl⟩
     have hZ14:=(hZ13.more (Fl.stb (ERr.stb _ _) _ _) hZ14s).only [Fl 1 (ERr c R) (i+1) C6,Mi m c R rs] (by simp)
     clear hZ13 hZ14s
     go_wp2_with (refine zso rfl (fun K hK=>wp_addi (.tmp 11) (.const (.int .i64 1)) rfl rfl rfl (C:=((i+1:Nat):Int)) (by omega) (by omega) (by omega) (hK _ _ ?_)))
     simp only [Stop,Act.put,zzC,zzD,zzE]
     go_wp2
     go_roundw
     case rel=>exact ⟨i+1,o6,C6,_,by omega,by go_num,rfl,hn_o6,hw_o6,hZ14⟩
     case measure=>simp [intOf]; omega
  ·
   obtain rfl:i=m:=by omega
   go_wp2_with (refine zso rfl (fun K hK=>wp_lenq (.tmp 8) 22 23 rs rfl (by kernel_rfl) rfl (hZ.get 1 (f:=Mi i c R rs) rfl).n (hK _ _ ?_)))
   simp only [Stop,Act.put,zzC,zzD,zzE]
   go_wp2_with (refine zso rfl (fun K hK=>wp_lssi (.tmp 7) (.tmp 9) rfl rfl rfl (r:=false) (decide_eq_false (Int.lt_irrefl _)) (hK _ _ ?_)))
   simp only [Stop,Act.put,zzC,zzD,zzE]
   go_wp2
   go_ret
   exact ⟨so,rfl,⟨hn_so,hZ.sq hX (ERr.stb _ _) hw_so (T:=35) (fun p hp=>hp) (hn_so ▸ hZ.get 0 (f:=Fl 1 (ERr c R) i Co) rfl)⟩,hZ.below⟩
set_option maxRecDepth 100000 in
set_option maxHeartbeats 12800000 in
theorem uCond1 {X0:Nat→Prop} {w:World} (hX:NX X0 w) {k r m e:Nat} {rs a:Sl} {A B:Nat→Nat→Int} (bF bR bK i:Nat) (hi:i < r) (hk:k≤12) (hm:k+r≤m) (hm2:m≤100) (he1:1≤e) (he:e≤200) (cF:Cf bF #[a.v] 26 X0 w) (cR:Cf bR #[rs.v] 25 X0 w) (cK:Cf bK #[.int .i64 ((k:Nat):Int)] 3 X0 w) (ha:Mt k (fun _=>k) A a X0 w) (hr:Mt r (fun _=>m) B rs X0 w) (bA:∀ i j,i < k→j < k→Sz e (A i j)) (bB:∀ i j,i < r→j < m→Sz e (B i j)) (hD:M.dt k A ≠ 0):Calls Tryz.prog 62 #[.int .i64 ((i:Nat):Int),.pointer (some ⟨bF,0,none⟩),.pointer (some ⟨bR,0,none⟩),.pointer (some ⟨bK,0,none⟩)] w (PLX X0 k (crx k A (B i)) w):=by
 have HD:=Lib.hid hD
 clear hD
 have hZ0:=zs_start hX
 have hZ1:=hZ0.more (f:=Cf bF #[a.v] 26) (Cf.stb _ _ _) cF
 clear hZ0
 have hZ2:=hZ1.more (f:=Cf bR #[rs.v] 25) (Cf.stb _ _ _) cR
 clear hZ1
 have hZ3:=hZ2.more (f:=Cf bK #[.int .i64 (((k:Nat):Int))] 3) (Cf.stb _ _ _) cK
 clear hZ2
 have hZ4:=hZ3.more (f:=Mt k (fun _=>k) A a) (Mt.stb _ _ _ _) ha
 clear hZ3
 have hZ5:=hZ4.more (f:=Mt r (fun _=>m) B rs) (Mt.stb _ _ _ _) hr
 clear hZ4
 go_enter Tryz.func62,Tryz.ntmps62
 go_wp2
 obtain ⟨XR1,hZ6⟩:∃ Xr,Zs w w X0 Xr [] [Mt r (fun _=>m) B rs,Mt k (fun _=>k) A a,Cf bK #[.int .i64 (((k:Nat):Int))] 3,Cf bR #[rs.v] 25,Cf bF #[a.v] 26]:=⟨_,hZ5⟩
 clear hZ5
 have hVS1:∀ kq,kq ∈ ([veq (a.v),veq (rs.v),veq (.int .i64 (((i:Nat):Int))),veq ((rs.at 1 i)),vls m (B i),veq (.int .i64 (((k:Nat):Int))),veq (.int .i64 (((k:Nat):Int))),vls k (B i),vtq k (crx k A (B i)) (M.dt k A),vtq k (crx k A (B i)) (M.dt k A),vls k (crx k A (B i)),vnum (M.dt k A),veq (.int .i64 0),vany,vls k (crx k A (B i)),vany]:List VF)→VSt kq:=by
  intro kq hkq
  simp only [List.mem_cons,List.not_mem_nil,or_false] at hkq
  rcases hkq with rfl | rfl | rfl | rfl | rfl | rfl | rfl | rfl | rfl | rfl | rfl | rfl | rfl | rfl | rfl | rfl
  ·
   exact (zve _).st
  ·
   exact (zve _).st
  ·
   exact (zve _).st
  ·
   exact (zve _).st
  ·
   exact (vls_se _ _).st
  ·
   exact (zve _).st
  ·
   exact (zve _).st
  ·
   exact (vls_se _ _).st
  ·
   exact (vtq_se _ _ _).st
  ·
   exact (vtq_se _ _ _).st
  ·
   exact (vls_se _ _).st
  ·
   exact (vnum_se _).st
  ·
   exact (zve _).st
  ·
   exact (vany_se).st
  ·
   exact (vls_se _ _).st
  ·
   exact (vany_se).st
 have hVE1:∀ kq,kq ∈ ([veq (a.v),veq (rs.v),veq (.int .i64 (((i:Nat):Int))),veq ((rs.at 1 i)),vls m (B i),veq (.int .i64 (((k:Nat):Int))),veq (.int .i64 (((k:Nat):Int))),vls k (B i),vtq k (crx k A (B i)) (M.dt k A),vtq k (crx k A (B i)) (M.dt k A),vls k (crx k A (B i)),vnum (M.dt k A),veq (.int .i64 0),vany,vls k (crx k A (B i)),vany]:List VF)→VSe kq:=by
  intro kq hkq
  simp only [List.mem_cons,List.not_mem_nil,or_false] at hkq
  rcases hkq with rfl | rfl | rfl | rfl | rfl | rfl | rfl | rfl | rfl | rfl | rfl | rfl | rfl | rfl | rfl | rfl
  ·
   exact zve _
  ·
   exact zve _
  ·
   exact zve _
  ·
   exact zve _
  ·
   exact vls_se _ _
  ·
   exact zve _
  ·
   exact zve _
  ·
   exact vls_se _ _
  ·
   exact vtq_se _ _ _
  ·
   exact vtq_se _ _ _
  ·
   exact vls_se _ _
  ·
   exact vnum_se _
  ·
   exact zve _
  ·
   exact vany_se
  ·
   exact vls_se _ _
  ·
   exact vany_se
 refine wp_region_s 16 [some 10,some 11,some 12,some 13,some 14,some 15,some 16,some 17,some 18,some 9,some 19,some 20,some 21,some 7,some 6,none] [veq (a.v),veq (rs.v),veq (.int .i64 (((i:Nat):Int))),veq ((rs.at 1 i)),vls m (B i),veq (.int .i64 (((k:Nat):Int))),veq (.int .i64 (((k:Nat):Int))),vls k (B i),vtq k (crx k A (B i)) (M.dt k A),vtq k (crx k A (B i)) (M.dt k A),vls k (crx k A (B i)),vnum (M.dt k A),veq (.int .i64 0),vany,vls k (crx k A (B i)),vany] (RelA 13 XR1 [] 30 (fun C=>C.size=2)) [Mt r (fun _=>m) B rs,Mt k (fun _=>k) A a,Cf bK #[.int .i64 (((k:Nat):Int))] 3,Cf bR #[rs.v] 25,Cf bF #[a.v] 26] (by kernel_rfl) (by kernel_rfl) (by rfl) (by decide) (by rfl) (fun u=>⟨XR1,[],RelA.start,hZ6.later (Below.refl _ _).drew⟩) ?_ ?_
 ·
  intro iq hlq hiq LL uu ww aa X1 l1 hLi hLc hR hJ hd hall hev hin hold
  clear hZ6
  obtain rfl | rfl | rfl | rfl | rfl | rfl | rfl | rfl | rfl | rfl | rfl | rfl | rfl | rfl | rfl | rfl:iq=0∨iq=1∨iq=2∨iq=3∨iq=4∨iq=5∨iq=6∨iq=7∨iq=8∨iq=9∨iq=10∨iq=11∨iq=12∨iq=13∨iq=14∨iq=15:=by omega
  ·
   refine zos hJ (fun _=>hR.keep (by decide) _) ?_
   exact .inr ⟨rfl,fun K' hK=>wp_load1 (v:=a.v) 26 (.tmp 1) rfl bF 0 #[a.v] 26 (hJ.get 4 (f:=Cf bF #[a.v] 26) rfl).1 (zet ((hev 1 (by decide)).trans rfl)) ag26 (by kernel_rfl) (hK _ _ hJ rfl zvs)⟩
  ·
   refine zos hJ (fun _=>hR.keep (by decide) _) ?_
   exact .inr ⟨rfl,fun K' hK=>wp_load1 (v:=rs.v) 25 (.tmp 2) rfl bR 0 #[rs.v] 25 (hJ.get 3 (f:=Cf bR #[rs.v] 25) rfl).1 (zet ((hev 2 (by decide)).trans rfl)) ag25 (by kernel_rfl) (hK _ _ hJ rfl zvs)⟩
  ·
   refine zos hJ (fun _=>hR.keep (by decide) _) ?_
   exact .inr ⟨rfl,fun K' hK=>wp_move (.tmp 0) rfl (zet ((hev 0 (by decide)).trans rfl)) (hK _ _ hJ rfl zvs)⟩
  ·
   refine zos hJ (fun _=>hR.keep (by decide) _) ?_
   exact .inr ⟨rfl,fun K' hK=>wp_ixs 25 (.tmp 11) (.tmp 12) rs i 1 27 rfl (zj (hin 1 11 rfl) (show uu 1=rs.v from (hd 1 (by decide) (by kernel_rfl)).2)) (zj (hin 2 12 rfl) (show uu 2=.int .i64 (((i:Nat):Int)) from (hd 2 (by decide) (by kernel_rfl)).2)) (by kernel_rfl) sz27 (fun h=>((hJ.get 0 (f:=Mt r (fun _=>m) B rs) rfl).sq.nil h).1) ((hJ.get 0 (f:=Mt r (fun _=>m) B rs) rfl).n ▸ (by omega)) (hK _ _ hJ rfl zvs)⟩
  ·
   refine zos hJ (fun _=>hR.keep (by decide) _) ?_
   exact .inr ⟨rfl,fun K' hK=>wp_ldm 27 (.tmp 13) rs i r (fun _=>m) B rfl (zj (hin 3 13 rfl) (show uu 3=(rs.at 1 i) from (hd 3 (by decide) (by kernel_rfl)).2)) (hJ.get 0 (f:=Mt r (fun _=>m) B rs) rfl) (by omega) ag27 (fun s1 hi_s1=>hK _ _ hJ ⟨s1,rfl,hi_s1⟩ zvs)⟩
  ·
   refine zos hJ (fun _=>hR.keep (by decide) _) ?_
   exact .inr ⟨rfl,fun K' hK=>wp_load1 (v:=.int .i64 (((k:Nat):Int))) 3 (.tmp 3) rfl bK 0 #[.int .i64 (((k:Nat):Int))] 3 (hJ.get 2 (f:=Cf bK #[.int .i64 (((k:Nat):Int))] 3) rfl).1 (zet ((hev 3 (by decide)).trans rfl)) ag3 (by kernel_rfl) (hK _ _ hJ rfl zvs)⟩
  ·
   refine zos hJ (fun _=>hR.keep (by decide) _) ?_
   exact .inr ⟨rfl,fun K' hK=>wp_load1 (v:=.int .i64 (((k:Nat):Int))) 3 (.tmp 3) rfl bK 0 #[.int .i64 (((k:Nat):Int))] 3 (hJ.get 2 (f:=Cf bK #[.int .i64 (((k:Nat):Int))] 3) rfl).1 (zet ((hev 3 (by decide)).trans rfl)) ag3 (by kernel_rfl) (hK _ _ hJ rfl zvs)⟩
  ·
   refine zos hJ (fun _=>hR.keep (by decide) _) ?_
   obtain ⟨s1,e4,hi_s1⟩:=(show (vls m (B i)) (uu 4) X1 ww from (hd 4 (by decide) (by kernel_rfl)).2)
   replace hJ:=hJ.more (f:=Ls m (B i) s1) (Ls.stb _ _ _) hi_s1
   exact .inr ⟨rfl,fun K' hK=>wp_sl3n 27 30 (.tmp 14) (.tmp 15) (.tmp 16) s1 k rfl (zj (hin 4 14 rfl) e4) (zj (hin 5 15 rfl) (show uu 5=.int .i64 (((k:Nat):Int)) from (hd 5 (by decide) (by kernel_rfl)).2)) (zj (hin 6 16 rfl) (show uu 6=.int .i64 (((k:Nat):Int)) from (hd 6 (by decide) (by kernel_rfl)).2)) (by kernel_rfl) sz30 (hJ.get 0 (f:=Ls m (B i) s1) rfl) (by omega) (fun s2 hc_s2 hi_s2=>hK _ _ (hJ.only [Mt r (fun _=>m) B rs,Mt k (fun _=>k) A a,Cf bK #[.int .i64 (((k:Nat):Int))] 3,Cf bR #[rs.v] 25,Cf bF #[a.v] 26] (by simp)) ⟨s2,rfl,hi_s2⟩ zvs)⟩
  ·
   refine zos hJ (fun _=>hR.keep (by decide) _) ?_
   obtain ⟨s2,e7,hi_s2⟩:=(show (vls k (B i)) (uu 7) X1 ww from (hd 7 (by decide) (by kernel_rfl)).2)
   replace hJ:=hJ.more (f:=Ls k (B i) s2) (Ls.stb _ _ _) hi_s2
   refine .inr ⟨rfl,fun K' hK=>?_⟩
   refine zcz (.func 50) #[.tmp 10,.tmp 17] #[26,27] 50 #[] #[a.v,s2.v] _ rfl rfl (map2 (zj (hin 0 10 rfl) (show uu 0=a.v from (hd 0 (by decide) (by kernel_rfl)).2)) (zj (hin 7 17 rfl) e7)) rfl (fun _ _=>rfl) (lSolN hJ.nx a s2 (e:=e) hk he1 he (hJ.get 2 (f:=Mt k (fun _=>k) A a) rfl) (hJ.get 0 (f:=Ls k (B i) s2) rfl) bA (fun t ht=>bB i t hi (by omega)) HD.out) ?_
   rintro zz ww2 ⟨sn,qd,rfl,hi_sn,ez_qd,hi_qd,hB⟩
   exact ⟨_,rfl,hK _ _ ((hJ.only [Mt r (fun _=>m) B rs,Mt k (fun _=>k) A a,Cf bK #[.int .i64 (((k:Nat):Int))] 3,Cf bR #[rs.v] 25,Cf bF #[a.v] 26] (by simp)).later hB) ⟨sn,qd,rfl,hi_sn,ez_qd,hi_qd⟩ (zvl hVS1 hB)⟩
  ·
   refine zos hJ (fun _=>hR.keep (by decide) _) ?_
   obtain ⟨sn,qd,e8,hi_sn,ez_qd,hi_qd⟩:=(show (vtq k (crx k A (B i)) (M.dt k A)) (uu 8) X1 ww from (hd 8 (by decide) (by kernel_rfl)).2)
   replace hJ:=hJ.more (f:=Ls k (crx k A (B i)) sn) (Ls.stb _ _ _) hi_sn
   replace hJ:=hJ.more (f:=qd.is) qd.stb hi_qd
   exact .inr ⟨rfl,fun K' hK=>wp_move (.tmp 18) rfl (zj (hin 8 18 rfl) e8) (hK _ _ (hJ.only [Mt r (fun _=>m) B rs,Mt k (fun _=>k) A a,Cf bK #[.int .i64 (((k:Nat):Int))] 3,Cf bR #[rs.v] 25,Cf bF #[a.v] 26] (by simp)) ⟨sn,qd,rfl,hi_sn,ez_qd,hi_qd⟩ zvs)⟩
  ·
   refine zos hJ (fun _=>hR.keep (by decide) _) ?_
   obtain ⟨sn,qd,e9,hi_sn,ez_qd,hi_qd⟩:=(show (vtq k (crx k A (B i)) (M.dt k A)) (uu 9) X1 ww from (hd 9 (by decide) (by kernel_rfl)).2)
   replace hJ:=hJ.more (f:=Ls k (crx k A (B i)) sn) (Ls.stb _ _ _) hi_sn
   replace hJ:=hJ.more (f:=qd.is) qd.stb hi_qd
   exact .inr ⟨rfl,fun K' hK=>wp_ext (.tmp 9) 0 rfl (zj (hin 9 9 rfl) e9) (fun _=>rfl) (hK _ _ (hJ.only [Mt r (fun _=>m) B rs,Mt k (fun _=>k) A a,Cf bK #[.int .i64 (((k:Nat):Int))] 3,Cf bR #[rs.v] 25,Cf bF #[a.v] 26] (by simp)) ⟨sn,rfl,hi_sn⟩ zvs)⟩
  ·
   refine zos hJ (fun _=>hR.keep (by decide) _) ?_
   obtain ⟨sn,qd,e9,hi_sn,ez_qd,hi_qd⟩:=(show (vtq k (crx k A (B i)) (M.dt k A)) (uu 9) X1 ww from (hd 9 (by decide) (by kernel_rfl)).2)
   replace hJ:=hJ.more (f:=Ls k (crx k A (B i)) sn) (Ls.stb _ _ _) hi_sn
   replace hJ:=hJ.more (f:=qd.is) qd.stb hi_qd
   exact .inr ⟨rfl,fun K' hK=>wp_ext (.tmp 9) 1 rfl (zj (hin 9 9 rfl) e9) (fun _=>rfl) (hK _ _ (hJ.only [Mt r (fun _=>m) B rs,Mt k (fun _=>k) A a,Cf bK #[.int .i64 (((k:Nat):Int))] 3,Cf bR #[rs.v] 25,Cf bF #[a.v] 26] (by simp)) ⟨qd,rfl,ez_qd,hi_qd⟩ zvs)⟩
  ·
   refine zos hJ (fun _=>hR.keep (by decide) _) ?_
   obtain ⟨sn,qd,e9,hi_sn,ez_qd,hi_qd⟩:=(show (vtq k (crx k A (B i)) (M.dt k A)) (uu 9) X1 ww from (hd 9 (by decide) (by kernel_rfl)).2)
   replace hJ:=hJ.more (f:=Ls k (crx k A (B i)) sn) (Ls.stb _ _ _) hi_sn
   replace hJ:=hJ.more (f:=qd.is) qd.stb hi_qd
   exact .inr ⟨rfl,fun K' hK=>wp_ext (.tmp 9) 2 rfl (zj (hin 9 9 rfl) e9) (fun _=>rfl) (hK _ _ (hJ.only [Mt r (fun _=>m) B rs,Mt k (fun _=>k) A a,Cf bK #[.int .i64 (((k:Nat):Int))] 3,Cf bR #[rs.v] 25,Cf bF #[a.v] 26] (by simp)) rfl zvs)⟩
  ·
   obtain ⟨eX,el⟩:=hR.no hLi
   subst el
   subst eX
   exact .inr ⟨rfl,fun K' hK=>wp_alloc 30 rfl (.agg #[.bool false,.slice none 0 0]) zv30 (hK _ _ _ _ (RelA.made rfl rfl) (hJ.new #[.bool false,.slice none 0 0] 30) trivial (vzL_e hVE1 (ext_new _ _ _ _)))⟩
  ·
   refine zos hJ (fun _=>hR.keep (by decide) _) ?_
   obtain ⟨sn,e10,hi_sn⟩:=(show (vls k (crx k A (B i))) (uu 10) X1 ww from (hd 10 (by decide) (by kernel_rfl)).2)
   replace hJ:=hJ.more (f:=Ls k (crx k A (B i)) sn) (Ls.stb _ _ _) hi_sn
   exact .inr ⟨rfl,fun K' hK=>wp_asgn (.tmp 19) rfl (zj (hin 10 19 rfl) e10) (hK _ _ (hJ.only [Mt r (fun _=>m) B rs,Mt k (fun _=>k) A a,Cf bK #[.int .i64 (((k:Nat):Int))] 3,Cf bR #[rs.v] 25,Cf bF #[a.v] 26] (by simp)) ⟨sn,rfl,hi_sn⟩ zvs)⟩
  ·
   obtain ⟨qd,e11,ez_qd,hi_qd⟩:=(show (vnum (M.dt k A)) (uu 11) X1 ww from (hd 11 (by decide) (by kernel_rfl)).2)
   replace hJ:=hJ.more (f:=qd.is) qd.stb hi_qd
   have hLA:=(hd 13 (by decide) (by kernel_rfl)).1
   obtain ⟨b,C,eu,hsC,el⟩:=hR.yes hLA
   subst el
   have evp:=zet ((hin 13 7 rfl).trans (congrArg some eu))
   exact .inr ⟨rfl,fun K' hK=>wp_store 30 (.tmp 7) (.tmp 20) rfl 0 b 0 C 30 2 [.bool qd.b,.slice qd.a qd.n qd.c] hJ.es rfl evp (by rw [(zj (hin 11 20 rfl) e11)]; rfl) sz30 rfl (by have h:C.size=2:=hsC; omega) (by kernel_rfl) (fun ww2 hE hk hz=>hK undef ww2 _ _ (RelA.put hLA (by decide) eu (by show (putC C 0 _).size=2; rw [putC_size]; exact hsC)) (Zs.only (hJ.put (j:=0) rfl hE hk hz) [Mt r (fun _=>m) B rs,Mt k (fun _=>k) A a,Cf bK #[.int .i64 (((k:Nat):Int))] 3,Cf bR #[rs.v] 25,Cf bF #[a.v] 26] (by simp)) trivial (vzL_e hVE1 (ext_put (hJ.own _ (List.mem_cons_self ..)) hk hz)))⟩
 clear hZ6
 intro LL uu W1 X1 l1 hLL hR hZ7 hd
 obtain ⟨bk1,CA,eA,hsA,el⟩:=hR.yes (hLL 13 (by decide))
 subst el
 have e_0:uu 0=a.v:=hd 0 (by decide)
 have e_1:uu 1=rs.v:=hd 1 (by decide)
 have e_2:uu 2=.int .i64 (((i:Nat):Int)):=hd 2 (by decide)
 have e_3:uu 3=(rs.at 1 i):=hd 3 (by decide)
 obtain ⟨s1,e_4,hi_s1⟩:=(show (vls m (B i)) (uu 4) X1 W1 from hd 4 (by decide))
 have e_5:uu 5=.int .i64 (((k:Nat):Int)):=hd 5 (by decide)
 have e_6:uu 6=.int .i64 (((k:Nat):Int)):=hd 6 (by decide)
 obtain ⟨s2,e_7,hi_s2⟩:=(show (vls k (B i)) (uu 7) X1 W1 from hd 7 (by decide))
 obtain ⟨sn,qd,e_8,hi_sn,ez_qd,hi_qd⟩:=(show (vtq k (crx k A (B i)) (M.dt k A)) (uu 8) X1 W1 from hd 8 (by decide))
 obtain ⟨sn_9,qd_9,e_9,hi_sn_9,ez_qd_9,hi_qd_9⟩:=(show (vtq k (crx k A (B i)) (M.dt k A)) (uu 9) X1 W1 from hd 9 (by decide))
 obtain ⟨sn_10,e_10,hi_sn_10⟩:=(show (vls k (crx k A (B i))) (uu 10) X1 W1 from hd 10 (by decide))
 obtain ⟨qd_11,e_11,ez_qd_11,hi_qd_11⟩:=(show (vnum (M.dt k A)) (uu 11) X1 W1 from hd 11 (by decide))
 have e_12:uu 12=.int .i64 0:=hd 12 (by decide)
 have e_13:uu 13=.pointer (some ⟨bk1,0,none⟩):=eA
 obtain ⟨sn_14,e_14,hi_sn_14⟩:=(show (vls k (crx k A (B i))) (uu 14) X1 W1 from hd 14 (by decide))
 clear hd hVS1 hVE1
 simp only [layS,Act.put,zzC,zzD,zzE,Nat.zero_add,Nat.reduceAdd,List.drop_succ_cons,List.drop_zero,List.drop_nil,e_0,e_1,e_2,e_3,e_4,e_5,e_6,e_7,e_8,e_9,e_10,e_11,e_12,e_13,e_14]
 clear e_0 e_1 e_2 e_3 e_4 e_5 e_6 e_7 e_8 e_9 e_10 e_11 e_12 e_13 e_14
 have hZ8:=hZ7.more (f:=Ls m (B i) s1) (Ls.stb _ _ _) hi_s1
 clear hZ7 hi_s1
 have hZ9:=hZ8.more (f:=Ls k (B i) s2) (Ls.stb _ _ _) hi_s2
 clear hZ8 hi_s2
 have hZ10:=hZ9.more (f:=Ls k (crx k A (B i)) sn) (Ls.stb _ _ _) hi_sn
 clear hZ9 hi_sn
 have hZ11:=hZ10.more (f:=qd.is) qd.stb hi_qd
 clear hZ10 hi_qd
 have hZ12:=hZ11.more (f:=Ls k (crx k A (B i)) sn_9) (Ls.stb _ _ _) hi_sn_9
 clear hZ11 hi_sn_9
 have hZ13:=hZ12.more (f:=qd_9.is) qd_9.stb hi_qd_9
 clear hZ12 hi_qd_9
 have hZ14:=hZ13.more (f:=Ls k (crx k A (B i)) sn_10) (Ls.stb _ _ _) hi_sn_10
 clear hZ13 hi_sn_10
 have hZ15:=hZ14.more (f:=qd_11.is) qd_11.stb hi_qd_11
 clear hZ14 hi_qd_11
 have hZ16:=hZ15.more (f:=Ls k (crx k A (B i)) sn_14) (Ls.stb _ _ _) hi_sn_14
 clear hZ15 hi_sn_14
 go_wp2
 go_ret
 exact ⟨sn_14,rfl,hZ16.out 0 (f:=Ls k (crx k A (B i)) sn_14) rfl,hZ16.below⟩
set_option maxRecDepth 100000 in
set_option maxHeartbeats 12800000 in
theorem uCond21 {X0:Nat→Prop} {w:World} (hX:NX X0 w) {k r m e:Nat} {rs ss:Sl} {A B:Nat→Nat→Int} {D:NL} {d:Int} (bD bR bI bK bS i j:Nat) (hi:i < r) (hj:j < r) (hk:k≤12) (hm:k+r≤m) (hm2:m≤100) (he1:1≤e) (he:e≤200) (cD:Cf bD #[.bool D.b,.slice D.a D.n D.c] 30 X0 w) (cR:Cf bR #[rs.v] 25 X0 w) (cI:Cf bI #[.int .i64 ((i:Nat):Int)] 3 X0 w) (cK:Cf bK #[.int .i64 ((k:Nat):Int)] 3 X0 w) (cS:Cf bS #[ss.v] 25 X0 w) (hDi:D.is X0 w) (ez_D:D.z=d) (bD_:Sz (dtb e k) d) (hss:Mt r (fun _=>k) (fun i=>crx k A (B i)) ss X0 w) (hr:Mt r (fun _=>m) B rs X0 w) (bA:∀ i j,i < k→j < k→Sz e (A i j)) (bB:∀ i j,i < r→j < m→Sz e (B i j)):Calls Tryz.prog 64 #[.int .i64 ((j:Nat):Int),.pointer (some ⟨bD,0,none⟩),.pointer (some ⟨bR,0,none⟩),.pointer (some ⟨bI,0,none⟩),.pointer (some ⟨bK,0,none⟩),.pointer (some ⟨bS,0,none⟩)] w (PNX X0 (d*B i (k+j) - M.sm k (fun t=>crx k A (B i) t*B j t)) w):=by
 have hdb:dtb e k≤3000:=dtb_le he hk
 have hZ0:=zs_start hX
 have hZ1:=hZ0.more (f:=Cf bD #[.bool D.b,.slice D.a D.n D.c] 30) (Cf.stb _ _ _) cD
 clear hZ0
 have hZ2:=hZ1.more (f:=Cf bR #[rs.v] 25) (Cf.stb _ _ _) cR
 clear hZ1
 have hZ3:=hZ2.more (f:=Cf bI #[.int .i64 (((i:Nat):Int))] 3) (Cf.stb _ _ _) cI
 clear hZ2
 have hZ4:=hZ3.more (f:=Cf bK #[.int .i64 (((k:Nat):Int))] 3) (Cf.stb _ _ _) cK
 clear hZ3
 have hZ5:=hZ4.more (f:=Cf bS #[ss.v] 25) (Cf.stb _ _ _) cS
 clear hZ4
 have hZ6:=hZ5.more (f:=D.is) D.stb hDi
 clear hZ5
 have hZ7:=hZ6.more (f:=Mt r (fun _=>k) (fun i=>crx k A (B i)) ss) (Mt.stb _ _ _ _) hss
 clear hZ6
 have hZ8:=hZ7.more (f:=Mt r (fun _=>m) B rs) (Mt.stb _ _ _ _) hr
 clear hZ7
 go_enter Tryz.func64,Tryz.ntmps64
 go_wp2_with (refine zsa 30 #[.bool false,.slice none 0 0] (.agg #[.bool false,.slice none 0 0]) rfl rfl zv30 rfl hZ8 (fun bk1 X9 W1 hZ9=>?_))
 clear hZ8
 simp only [Stop,Act.put,zzC,zzD,zzE]
 go_wp2
 obtain ⟨XR1,hZ10⟩:∃ Xr,Zs w W1 X0 Xr [(bk1,#[.bool false,.slice none 0 0],30)] [Mt r (fun _=>m) B rs,Mt r (fun _=>k) (fun i=>crx k A (B i)) ss,D.is,Cf bS #[ss.v] 25,Cf bK #[.int .i64 (((k:Nat):Int))] 3,Cf bI #[.int .i64 (((i:Nat):Int))] 3,Cf bR #[rs.v] 25,Cf bD #[.bool D.b,.slice D.a D.n D.c] 30]:=⟨_,hZ9⟩
 clear hZ9
 refine zrp 21 [some 8,some 9,some 10,some 11,some 12,some 13,some 14,some 15,some 16,some 17,some 18,some 19,some 20,some 21,some 22,some 23,some 24,some 25,some 26,some 27,some 28] [veq (D.v),veq (rs.v),veq (.int .i64 (((i:Nat):Int))),veq ((rs.at 1 i)),vls m (B i),veq (.int .i64 (((k:Nat):Int))),veq (.int .i64 (((j:Nat):Int))),veq (.int .i64 (((k+j:Nat):Int))),vat m (B i) (k+j),vnum (B i (k+j)),vnum (d*(B i (k+j))),veq (ss.v),veq (.int .i64 (((i:Nat):Int))),veq ((ss.at 1 i)),vls k (crx k A (B i)),veq (rs.v),veq (.int .i64 (((j:Nat):Int))),veq ((rs.at 1 j)),vls m (B j),vnum (M.sm k (fun t=>(crx k A (B i)) t*B j t)),vnum ((d*(B i (k+j))) - (M.sm k (fun t=>(crx k A (B i)) t*B j t)))] (by kernel_rfl) (by kernel_rfl) (by rfl) (by decide) (by rfl) hZ10 ?_ ?_
 ·
  intro iq hlq hiq LL uu ww aa hLi hLc hJ hd hall hev hin hold
  clear hZ10
  obtain rfl | rfl | rfl | rfl | rfl | rfl | rfl | rfl | rfl | rfl | rfl | rfl | rfl | rfl | rfl | rfl | rfl | rfl | rfl | rfl | rfl:iq=0∨iq=1∨iq=2∨iq=3∨iq=4∨iq=5∨iq=6∨iq=7∨iq=8∨iq=9∨iq=10∨iq=11∨iq=12∨iq=13∨iq=14∨iq=15∨iq=16∨iq=17∨iq=18∨iq=19∨iq=20:=by omega
  ·
   exact oz rfl (fun _ hK=>wp_load 30 (.tmp 1) rfl bD 0 2 #[.bool D.b,.slice D.a D.n D.c] #[.bool D.b,.slice D.a D.n D.c] 30 (hJ.get 7 (f:=Cf bD #[.bool D.b,.slice D.a D.n D.c] 30) rfl).1 (zet ((hev 1 (by decide)).trans rfl)) ag30 sz30 (zzF (by kernel_rfl)) (by kernel_rfl) (hK _ _ hJ rfl vsm))
  ·
   exact oz rfl (fun _ hK=>wp_load1 (v:=rs.v) 25 (.tmp 2) rfl bR 0 #[rs.v] 25 (hJ.get 6 (f:=Cf bR #[rs.v] 25) rfl).1 (zet ((hev 2 (by decide)).trans rfl)) ag25 (by kernel_rfl) (hK _ _ hJ rfl vsm))
  ·
   exact oz rfl (fun _ hK=>wp_load1 (v:=.int .i64 (((i:Nat):Int))) 3 (.tmp 3) rfl bI 0 #[.int .i64 (((i:Nat):Int))] 3 (hJ.get 5 (f:=Cf bI #[.int .i64 (((i:Nat):Int))] 3) rfl).1 (zet ((hev 3 (by decide)).trans rfl)) ag3 (by kernel_rfl) (hK _ _ hJ rfl vsm))
  ·
   exact oz rfl (fun _ hK=>wp_ixs 25 (.tmp 9) (.tmp 10) rs i 1 27 rfl (zj (hin 1 9 rfl) (show uu 1=rs.v from (hd 1 (by kernel_rfl)))) (zj (hin 2 10 rfl) (show uu 2=.int .i64 (((i:Nat):Int)) from (hd 2 (by kernel_rfl)))) (by kernel_rfl) sz27 (fun h=>((hJ.get 0 (f:=Mt r (fun _=>m) B rs) rfl).sq.nil h).1) ((hJ.get 0 (f:=Mt r (fun _=>m) B rs) rfl).n ▸ (by omega)) (hK _ _ hJ rfl vsm))
  ·
   exact oz rfl (fun _ hK=>wp_ldm 27 (.tmp 11) rs i r (fun _=>m) B rfl (zj (hin 3 11 rfl) (show uu 3=(rs.at 1 i) from (hd 3 (by kernel_rfl)))) (hJ.get 0 (f:=Mt r (fun _=>m) B rs) rfl) (by omega) ag27 (fun s1 hi_s1=>hK _ _ hJ ⟨s1,rfl,hi_s1⟩ vsm))
  ·
   exact oz rfl (fun _ hK=>wp_load1 (v:=.int .i64 (((k:Nat):Int))) 3 (.tmp 4) rfl bK 0 #[.int .i64 (((k:Nat):Int))] 3 (hJ.get 4 (f:=Cf bK #[.int .i64 (((k:Nat):Int))] 3) rfl).1 (zet ((hev 4 (by decide)).trans rfl)) ag3 (by kernel_rfl) (hK _ _ hJ rfl vsm))
  ·
   exact oz rfl (fun _ hK=>wp_move (.tmp 0) rfl (zet ((hev 0 (by decide)).trans rfl)) (hK _ _ hJ rfl vsm))
  ·
   exact oz rfl (fun _ hK=>wp_addi (.tmp 13) (.tmp 14) rfl (zj (hin 5 13 rfl) (show uu 5=.int .i64 (((k:Nat):Int)) from (hd 5 (by kernel_rfl)))) (zj (hin 6 14 rfl) (show uu 6=.int .i64 (((j:Nat):Int)) from (hd 6 (by kernel_rfl)))) (C:=((k+j:Nat):Int)) (by omega) (by omega) (by omega) (hK _ _ hJ rfl vsm))
  ·
   obtain ⟨s1,e4,hi_s1⟩:=(show (vls m (B i)) (uu 4) XR1 ww from (hd 4 (by kernel_rfl)))
   replace hJ:=hJ.more (f:=Ls m (B i) s1) (Ls.stb _ _ _) hi_s1
   exact oz rfl (fun _ hK=>wp_ixs 27 (.tmp 12) (.tmp 15) s1 (k+j) 2 30 rfl (zj (hin 4 12 rfl) e4) (zj (hin 7 15 rfl) (show uu 7=.int .i64 (((k+j:Nat):Int)) from (hd 7 (by kernel_rfl)))) (by kernel_rfl) sz30 (fun h=>((hJ.get 0 (f:=Ls m (B i) s1) rfl).sq.nil h).1) ((hJ.get 0 (f:=Ls m (B i) s1) rfl).n ▸ (by omega)) (hK _ _ (hJ.only [Mt r (fun _=>m) B rs,Mt r (fun _=>k) (fun i=>crx k A (B i)) ss,D.is,Cf bS #[ss.v] 25,Cf bK #[.int .i64 (((k:Nat):Int))] 3,Cf bI #[.int .i64 (((i:Nat):Int))] 3,Cf bR #[rs.v] 25,Cf bD #[.bool D.b,.slice D.a D.n D.c] 30] (by simp)) ⟨s1,rfl,hi_s1⟩ vsm))
  ·
   obtain ⟨s1,e8,hi_s1⟩:=(show (vat m (B i) (k+j)) (uu 8) XR1 ww from (hd 8 (by kernel_rfl)))
   replace hJ:=hJ.more (f:=Ls m (B i) s1) (Ls.stb _ _ _) hi_s1
   exact oz rfl (fun _ hK=>wp_ldn 30 (.tmp 16) s1 (k+j) m (B i) rfl (zj (hin 8 16 rfl) e8) (hJ.get 0 (f:=Ls m (B i) s1) rfl) (by omega) ag30 sz30 (fun q2 ez_q2 hi_q2=>hK _ _ (hJ.only [Mt r (fun _=>m) B rs,Mt r (fun _=>k) (fun i=>crx k A (B i)) ss,D.is,Cf bS #[ss.v] 25,Cf bK #[.int .i64 (((k:Nat):Int))] 3,Cf bI #[.int .i64 (((i:Nat):Int))] 3,Cf bR #[rs.v] 25,Cf bD #[.bool D.b,.slice D.a D.n D.c] 30] (by simp)) ⟨q2,rfl,ez_q2,hi_q2⟩ vsm))
  ·
   obtain ⟨q2,e9,ez_q2,hi_q2⟩:=(show (vnum (B i (k+j))) (uu 9) XR1 ww from (hd 9 (by kernel_rfl)))
   replace hJ:=hJ.more (f:=q2.is) q2.stb hi_q2
   refine oz rfl (fun _ hK=>zcz (.func 12) #[.tmp 8,.tmp 17] #[30,30] 12 #[] #[D.v,q2.v] _ rfl rfl (map2 (zj (hin 0 8 rfl) (show uu 0=D.v from (hd 0 (by kernel_rfl)))) (zj (hin 9 17 rfl) e9)) rfl (fun _ _=>rfl) (zMul hJ.nx (hJ.get 3 (f:=D.is) rfl) (hJ.get 0 (f:=q2.is) rfl) ez_D ez_q2 bD_ ((fun (t:Nat) (ht:t < m)=>bB i t (by omega) ht) (k+j) (by omega)) (by omega) (by omega)) ?_)
   rintro zz ww2 ⟨q3,rfl,ez_q3,hi_q3,hB⟩
   exact ⟨_,rfl,hK _ _ ((hJ.only [Mt r (fun _=>m) B rs,Mt r (fun _=>k) (fun i=>crx k A (B i)) ss,D.is,Cf bS #[ss.v] 25,Cf bK #[.int .i64 (((k:Nat):Int))] 3,Cf bI #[.int .i64 (((i:Nat):Int))] 3,Cf bR #[rs.v] 25,Cf bD #[.bool D.b,.slice D.a D.n D.c] 30] (by simp)).later hB) ⟨q3,rfl,ez_q3,hi_q3⟩ (vlat hB)⟩
  ·
   exact oz rfl (fun _ hK=>wp_load1 (v:=ss.v) 25 (.tmp 5) rfl bS 0 #[ss.v] 25 (hJ.get 3 (f:=Cf bS #[ss.v] 25) rfl).1 (zet ((hev 5 (by decide)).trans rfl)) ag25 (by kernel_rfl) (hK _ _ hJ rfl vsm))
  ·
   exact oz rfl (fun _ hK=>wp_load1 (v:=.int .i64 (((i:Nat):Int))) 3 (.tmp 3) rfl bI 0 #[.int .i64 (((i:Nat):Int))] 3 (hJ.get 5 (f:=Cf bI #[.int .i64 (((i:Nat):Int))] 3) rfl).1 (zet ((hev 3 (by decide)).trans rfl)) ag3 (by kernel_rfl) (hK _ _ hJ rfl vsm))
  ·
   exact oz rfl (fun _ hK=>wp_ixs 25 (.tmp 19) (.tmp 20) ss i 1 27 rfl (zj (hin 11 19 rfl) (show uu 11=ss.v from (hd 11 (by kernel_rfl)))) (zj (hin 12 20 rfl) (show uu 12=.int .i64 (((i:Nat):Int)) from (hd 12 (by kernel_rfl)))) (by kernel_rfl) sz27 (fun h=>((hJ.get 1 (f:=Mt r (fun _=>k) (fun i=>crx k A (B i)) ss) rfl).sq.nil h).1) ((hJ.get 1 (f:=Mt r (fun _=>k) (fun i=>crx k A (B i)) ss) rfl).n ▸ (by omega)) (hK _ _ hJ rfl vsm))
  ·
   exact oz rfl (fun _ hK=>wp_ldm 27 (.tmp 21) ss i r (fun _=>k) (fun i=>crx k A (B i)) rfl (zj (hin 13 21 rfl) (show uu 13=(ss.at 1 i) from (hd 13 (by kernel_rfl)))) (hJ.get 1 (f:=Mt r (fun _=>k) (fun i=>crx k A (B i)) ss) rfl) (by omega) ag27 (fun s4 hi_s4=>hK _ _ hJ ⟨s4,rfl,hi_s4⟩ vsm))
  ·
   exact oz rfl (fun _ hK=>wp_load1 (v:=rs.v) 25 (.tmp 2) rfl bR 0 #[rs.v] 25 (hJ.get 6 (f:=Cf bR #[rs.v] 25) rfl).1 (zet ((hev 2 (by decide)).trans rfl)) ag25 (by kernel_rfl) (hK _ _ hJ rfl vsm))
  ·
   exact oz rfl (fun _ hK=>wp_move (.tmp 0) rfl (zet ((hev 0 (by decide)).trans rfl)) (hK _ _ hJ rfl vsm))
  ·
   exact oz rfl (fun _ hK=>wp_ixs 25 (.tmp 23) (.tmp 24) rs j 1 27 rfl (zj (hin 15 23 rfl) (show uu 15=rs.v from (hd 15 (by kernel_rfl)))) (zj (hin 16 24 rfl) (show uu 16=.int .i64 (((j:Nat):Int)) from (hd 16 (by kernel_rfl)))) (by kernel_rfl) sz27 (fun h=>((hJ.get 0 (f:=Mt r (fun _=>m) B rs) rfl).sq.nil h).1) ((hJ.get 0 (f:=Mt r (fun _=>m) B rs) rfl).n ▸ (by omega)) (hK _ _ hJ rfl vsm))
  ·
   exact oz rfl (fun _ hK=>wp_ldm 27 (.tmp 25) rs j r (fun _=>m) B rfl (zj (hin 17 25 rfl) (show uu 17=(rs.at 1 j) from (hd 17 (by kernel_rfl)))) (hJ.get 0 (f:=Mt r (fun _=>m) B rs) rfl) (by omega) ag27 (fun s5 hi_s5=>hK _ _ hJ ⟨s5,rfl,hi_s5⟩ vsm))
  ·
   obtain ⟨s4,e14,hi_s4⟩:=(show (vls k (crx k A (B i))) (uu 14) XR1 ww from (hd 14 (by kernel_rfl)))
   obtain ⟨s5,e18,hi_s5⟩:=(show (vls m (B j)) (uu 18) XR1 ww from (hd 18 (by kernel_rfl)))
   replace hJ:=hJ.more (f:=Ls k (crx k A (B i)) s4) (Ls.stb _ _ _) hi_s4
   replace hJ:=hJ.more (f:=Ls m (B j) s5) (Ls.stb _ _ _) hi_s5
   refine oz rfl (fun _ hK=>zcz (.func 33) #[.tmp 22,.tmp 26] #[27,27] 33 #[] #[s4.v,s5.v] _ rfl rfl (map2 (zj (hin 14 22 rfl) e14) (zj (hin 18 26 rfl) e18)) rfl (fun _ _=>rfl) ((show Calls _ _ #[s4.v,s5.v] _ (PNX _ (M.sm k (fun t=>(crx k A (B i)) t*B j t)) _) from uInner hJ.nx s4 s5 (e:=(dtb e k)+e) (hJ.get 1 (f:=Ls k (crx k A (B i)) s4) rfl) (hJ.get 0 (f:=Ls m (B j) s5) rfl) (by omega) (fun (tq:Nat) htq=>((fun (t:Nat) (_:t < k)=>crx_sz bA (fun t ht=>bB i t (by omega) (by omega)) t) tq htq).mono (Nat.le_add_right _ _)) (fun (tq:Nat) htq=>((fun (t:Nat) (ht:t < m)=>bB j t (by omega) ht) tq (by omega)).mono (Nat.le_add_left _ _)) (by omega) (by omega))) ?_)
   rintro zz ww2 ⟨q6,rfl,ez_q6,hi_q6,hB⟩
   exact ⟨_,rfl,hK _ _ ((hJ.only [Mt r (fun _=>m) B rs,Mt r (fun _=>k) (fun i=>crx k A (B i)) ss,D.is,Cf bS #[ss.v] 25,Cf bK #[.int .i64 (((k:Nat):Int))] 3,Cf bI #[.int .i64 (((i:Nat):Int))] 3,Cf bR #[rs.v] 25,Cf bD #[.bool D.b,.slice D.a D.n D.c] 30] (by simp)).later hB) ⟨q6,rfl,ez_q6,hi_q6⟩ (vlat hB)⟩
  ·
   obtain ⟨q3,e10,ez_q3,hi_q3⟩:=(show (vnum (d*(B i (k+j)))) (uu 10) XR1 ww from (hd 10 (by kernel_rfl)))
   obtain ⟨q6,e19,ez_q6,hi_q6⟩:=(show (vnum (M.sm k (fun t=>(crx k A (B i)) t*B j t))) (uu 19) XR1 ww from (hd 19 (by kernel_rfl)))
   replace hJ:=hJ.more (f:=q3.is) q3.stb hi_q3
   replace hJ:=hJ.more (f:=q6.is) q6.stb hi_q6
   refine oz rfl (fun _ hK=>zcz (.func 35) #[.tmp 18,.tmp 27] #[30,30] 35 #[] #[q3.v,q6.v] _ rfl rfl (map2 (zj (hin 10 18 rfl) e10) (zj (hin 19 27 rfl) e19)) rfl (fun _ _=>rfl) (zSub hJ.nx (hJ.get 1 (f:=q3.is) rfl) (hJ.get 0 (f:=q6.is) rfl) ez_q3 ez_q6 (Sz.mul bD_ ((fun (t:Nat) (ht:t < m)=>bB i t (by omega) ht) (k+j) (by omega))) (sm_sz (fun (tq:Nat) htq=>Sz.mul ((fun (t:Nat) (_:t < k)=>crx_sz bA (fun t ht=>bB i t (by omega) (by omega)) t) tq htq) ((fun (t:Nat) (ht:t < m)=>bB j t (by omega) ht) tq (by omega)))) (by omega) (by omega)) ?_)
   rintro zz ww2 ⟨q7,rfl,ez_q7,hi_q7,hB⟩
   exact ⟨_,rfl,hK _ _ ((hJ.only [Mt r (fun _=>m) B rs,Mt r (fun _=>k) (fun i=>crx k A (B i)) ss,D.is,Cf bS #[ss.v] 25,Cf bK #[.int .i64 (((k:Nat):Int))] 3,Cf bI #[.int .i64 (((i:Nat):Int))] 3,Cf bR #[rs.v] 25,Cf bD #[.bool D.b,.slice D.a D.n D.c] 30] (by simp)).later hB) ⟨q7,rfl,ez_q7,hi_q7⟩ (vlat hB)⟩
 clear hZ10
 intro uu W2 hZ11 hd
 have e_0:uu 0=D.v:=hd 0 (by decide)
 have e_1:uu 1=rs.v:=hd 1 (by decide)
 have e_2:uu 2=.int .i64 (((i:Nat):Int)):=hd 2 (by decide)
 have e_3:uu 3=(rs.at 1 i):=hd 3 (by decide)
 obtain ⟨s1,e_4,hi_s1⟩:=(show (vls m (B i)) (uu 4) XR1 W2 from hd 4 (by decide))
 have e_5:uu 5=.int .i64 (((k:Nat):Int)):=hd 5 (by decide)
 have e_6:uu 6=.int .i64 (((j:Nat):Int)):=hd 6 (by decide)
 have e_7:uu 7=.int .i64 (((k+j:Nat):Int)):=hd 7 (by decide)
 obtain ⟨s1_8,e_8,hi_s1_8⟩:=(show (vat m (B i) (k+j)) (uu 8) XR1 W2 from hd 8 (by decide))
 obtain ⟨q2,e_9,ez_q2,hi_q2⟩:=(show (vnum (B i (k+j))) (uu 9) XR1 W2 from hd 9 (by decide))
 obtain ⟨q3,e_10,ez_q3,hi_q3⟩:=(show (vnum (d*(B i (k+j)))) (uu 10) XR1 W2 from hd 10 (by decide))
 have e_11:uu 11=ss.v:=hd 11 (by decide)
 have e_12:uu 12=.int .i64 (((i:Nat):Int)):=hd 12 (by decide)
 have e_13:uu 13=(ss.at 1 i):=hd 13 (by decide)
 obtain ⟨s4,e_14,hi_s4⟩:=(show (vls k (crx k A (B i))) (uu 14) XR1 W2 from hd 14 (by decide))
 have e_15:uu 15=rs.v:=hd 15 (by decide)
 have e_16:uu 16=.int .i64 (((j:Nat):Int)):=hd 16 (by decide)
 have e_17:uu 17=(rs.at 1 j):=hd 17 (by decide)
 obtain ⟨s5,e_18,hi_s5⟩:=(show (vls m (B j)) (uu 18) XR1 W2 from hd 18 (by decide))
 obtain ⟨q6,e_19,ez_q6,hi_q6⟩:=(show (vnum (M.sm k (fun t=>(crx k A (B i)) t*B j t))) (uu 19) XR1 W2 from hd 19 (by decide))
 obtain ⟨q7,e_20,ez_q7,hi_q7⟩:=(show (vnum ((d*(B i (k+j))) - (M.sm k (fun t=>(crx k A (B i)) t*B j t)))) (uu 20) XR1 W2 from hd 20 (by decide))
 clear hd
 simp only [layS,Act.put,zzC,zzD,zzE,Nat.zero_add,Nat.reduceAdd,List.drop_succ_cons,List.drop_zero,List.drop_nil,e_0,e_1,e_2,e_3,e_4,e_5,e_6,e_7,e_8,e_9,e_10,e_11,e_12,e_13,e_14,e_15,e_16,e_17,e_18,e_19,e_20]
 clear e_0 e_1 e_2 e_3 e_4 e_5 e_6 e_7 e_8 e_9 e_10 e_11 e_12 e_13 e_14 e_15 e_16 e_17 e_18 e_19 e_20
 have hZ12:=hZ11.more (f:=Ls m (B i) s1) (Ls.stb _ _ _) hi_s1
 clear hZ11 hi_s1
 have hZ13:=hZ12.more (f:=Ls m (B i) s1_8) (Ls.stb _ _ _) hi_s1_8
 clear hZ12 hi_s1_8
 have hZ14:=hZ13.more (f:=q2.is) q2.stb hi_q2
 clear hZ13 hi_q2
 have hZ15:=hZ14.more (f:=q3.is) q3.stb hi_q3
 clear hZ14 hi_q3
 have hZ16:=hZ15.more (f:=Ls k (crx k A (B i)) s4) (Ls.stb _ _ _) hi_s4
 clear hZ15 hi_s4
 have hZ17:=hZ16.more (f:=Ls m (B j) s5) (Ls.stb _ _ _) hi_s5
 clear hZ16 hi_s5
 have hZ18:=hZ17.more (f:=q6.is) q6.stb hi_q6
 clear hZ17 hi_q6
 have hZ19:=hZ18.more (f:=q7.is) q7.stb hi_q7
 clear hZ18 hi_q7
 go_wp2_with (refine zss 30 (.tmp 7) (.tmp 28) 0 bk1 0 #[.bool false,.slice none 0 0] 30 2 [.bool q7.b,.slice q7.a q7.n q7.c] #[.bool q7.b,.slice q7.a q7.n q7.c] [(bk1,#[.bool q7.b,.slice q7.a q7.n q7.c],30)] rfl rfl rfl rfl sz30 hZ19 rfl rfl (zzF (by kernel_rfl)) (by kernel_rfl) (by kernel_rfl) (by kernel_rfl) (fun W3 hZ20=>?_))
 clear hZ19
 simp only [Stop,Act.put,zzC,zzD,zzE]
 go_wp2
 exact bodyPost_ret (v:=q7.v) (results_cell 0 Tryz.results64 hZ20.es rfl ag30 sz30 (zzF (by kernel_rfl)) rfl (by kernel_rfl)) rfl ⟨q7,rfl,ez_q7,hZ20.out 0 (f:=q7.is) rfl,hZ20.below⟩
set_option maxRecDepth 100000 in
set_option maxHeartbeats 12800000 in
theorem uCond2 {X0:Nat→Prop} {w:World} (hX:NX X0 w) {k r m e:Nat} {rs ss:Sl} {A B:Nat→Nat→Int} {D:NL} {d:Int} (bR bD bK bS i:Nat) (hi:i < r) (hk:k≤12) (hm:k+r≤m) (hm2:m≤100) (he1:1≤e) (he:e≤200) (cD:Cf bD #[.bool D.b,.slice D.a D.n D.c] 30 X0 w) (cR:Cf bR #[rs.v] 25 X0 w) (cK:Cf bK #[.int .i64 ((k:Nat):Int)] 3 X0 w) (cS:Cf bS #[ss.v] 25 X0 w) (hDi:D.is X0 w) (ez_D:D.z=d) (bD_:Sz (dtb e k) d) (hss:Mt r (fun _=>k) (fun i=>crx k A (B i)) ss X0 w) (hr:Mt r (fun _=>m) B rs X0 w) (bA:∀ i j,i < k→j < k→Sz e (A i j)) (bB:∀ i j,i < r→j < m→Sz e (B i j)):Calls Tryz.prog 63 #[.int .i64 ((i:Nat):Int),.pointer (some ⟨bR,0,none⟩),.pointer (some ⟨bD,0,none⟩),.pointer (some ⟨bK,0,none⟩),.pointer (some ⟨bS,0,none⟩)] w (PLX X0 r ((fun i j=>d*B i (k+j) - M.sm k (fun t=>crx k A (B i) t*B j t)) i) w):=by
 have hZ0:=zs_start hX
 have hZ1:=hZ0.more (f:=Cf bD #[.bool D.b,.slice D.a D.n D.c] 30) (Cf.stb _ _ _) cD
 clear hZ0
 have hZ2:=hZ1.more (f:=Cf bR #[rs.v] 25) (Cf.stb _ _ _) cR
 clear hZ1
 have hZ3:=hZ2.more (f:=Cf bK #[.int .i64 (((k:Nat):Int))] 3) (Cf.stb _ _ _) cK
 clear hZ2
 have hZ4:=hZ3.more (f:=Cf bS #[ss.v] 25) (Cf.stb _ _ _) cS
 clear hZ3
 have hZ5:=hZ4.more (f:=D.is) D.stb hDi
 clear hZ4
 have hZ6:=hZ5.more (f:=Mt r (fun _=>k) (fun i=>crx k A (B i)) ss) (Mt.stb _ _ _ _) hss
 clear hZ5
 have hZ7:=hZ6.more (f:=Mt r (fun _=>m) B rs) (Mt.stb _ _ _ _) hr
 clear hZ6
 go_enter Tryz.func63,Tryz.ntmps63
 go_wp2_with (refine zsb 3 (.tmp 0) #[.int .i64 (((i:Nat):Int))] rfl rfl rfl hZ7 (fun bk1 X8 W1 hZ8=>?_))
 clear hZ7
 simp only [Stop,Act.put,zzC,zzD,zzE]
 have hZ9:=hZ8.release hX
 clear hZ8
 go_wp2_with (refine zso rfl (fun K hK=>wp_load1 (v:=rs.v) 25 (.tmp 1) rfl bR 0 #[rs.v] 25 (hZ9.get 6 (f:=Cf bR #[rs.v] 25) rfl).1 rfl ag25 (by kernel_rfl) (hK _ _ ?_)))
 simp only [Stop,Act.put,zzC,zzD,zzE]
 go_wp2_with (refine zso rfl (fun K hK=>wp_lenq (.tmp 7) 25 27 rs rfl (by kernel_rfl) rfl (hZ9.get 1 (f:=Mt r (fun _=>m) B rs) rfl).n (hK _ _ ?_)))
 simp only [Stop,Act.put,zzC,zzD,zzE]
 go_wp2_with (refine zso rfl (fun K hK=>wp_mkf 64 #[.tmp 2,.tmp 1,.tmp 5,.tmp 3,.tmp 4] #[.pointer (some ⟨bD,0,none⟩),.pointer (some ⟨bR,0,none⟩),.pointer (some ⟨bk1,0,none⟩),.pointer (some ⟨bK,0,none⟩),.pointer (some ⟨bS,0,none⟩)] rfl (map5 rfl rfl rfl rfl rfl) (hK _ _ ?_)))
 simp only [Stop,Act.put,zzC,zzD,zzE]
 go_wp2_with fail
 refine (uMadeN hZ9.nx r 64 #[.pointer (some ⟨bD,0,none⟩),.pointer (some ⟨bR,0,none⟩),.pointer (some ⟨bk1,0,none⟩),.pointer (some ⟨bK,0,none⟩),.pointer (some ⟨bS,0,none⟩)] ((fun i j=>d*B i (k+j) - M.sm k (fun t=>crx k A (B i) t*B j t)) i) (by omega) ⟨fun _ _=>rfl,fun j hj X' W' hx he_ hb=>(show Calls _ _ #[.int .i64 ((j:Nat):Int),.pointer (some ⟨bD,0,none⟩),.pointer (some ⟨bR,0,none⟩),.pointer (some ⟨bk1,0,none⟩),.pointer (some ⟨bK,0,none⟩),.pointer (some ⟨bS,0,none⟩)] _ _ from uCond21 hx bD bR bk1 bK bS i j hi hj hk hm hm2 he1 he (Cf.stb _ _ _ _ _ _ _ he_ (hZ9.get 7 (f:=Cf bD #[.bool D.b,.slice D.a D.n D.c] 30) rfl)) (Cf.stb _ _ _ _ _ _ _ he_ (hZ9.get 6 (f:=Cf bR #[rs.v] 25) rfl)) (Cf.stb _ _ _ _ _ _ _ he_ (hZ9.get 0 (f:=Cf bk1 #[.int .i64 (((i:Nat):Int))] 3) rfl)) (Cf.stb _ _ _ _ _ _ _ he_ (hZ9.get 5 (f:=Cf bK #[.int .i64 (((k:Nat):Int))] 3) rfl)) (Cf.stb _ _ _ _ _ _ _ he_ (hZ9.get 4 (f:=Cf bS #[ss.v] 25) rfl)) (D.stb _ _ _ _ he_ (hZ9.get 3 (f:=D.is) rfl)) ez_D bD_ (Mt.stb _ _ _ _ _ _ _ _ he_ (hZ9.get 2 (f:=Mt r (fun _=>k) (fun i=>crx k A (B i)) ss) rfl)) (Mt.stb _ _ _ _ _ _ _ _ he_ (hZ9.get 1 (f:=Mt r (fun _=>m) B rs) rfl)) bA bB)⟩).mono ?_
 rintro zz W2 ⟨s1,rfl,hi_s1,hB⟩
 have hZ10:=hZ9.later hB
 clear hB hZ9
 have hZ11:=hZ10.more (f:=Ls r ((fun i j=>d*B i (k+j) - M.sm k (fun t=>crx k A (B i) t*B j t)) i) s1) (Ls.stb _ _ _) hi_s1
 clear hZ10 hi_s1
 go_wp2
 go_ret
 exact ⟨s1,rfl,hZ11.out 0 (f:=Ls r ((fun i j=>d*B i (k+j) - M.sm k (fun t=>crx k A (B i) t*B j t)) i) s1) rfl,hZ11.below⟩
set_option maxRecDepth 100000 in
set_option maxHeartbeats 12800000 in
theorem uCond {X0:Nat→Prop} {w:World} (hX:NX X0 w) (rs a:Sl) (D:NL) {k r m e:Nat} {A B:Nat→Nat→Int} {d:Int} (hk:k≤12) (hm:k+r≤m) (hm2:m≤100) (he1:1≤e) (he:e≤200) (hDi:D.is X0 w) (ez_D:D.z=d) (bD_:Sz (dtb e k) d) (ha:Mt k (fun _=>k) A a X0 w) (hr:Mt r (fun _=>m) B rs X0 w) (bA:∀ i j,i < k→j < k→Sz e (A i j)) (bB:∀ i j,i < r→j < m→Sz e (B i j)) (hD:M.dt k A ≠ 0):Calls Tryz.prog 27 #[rs.v,a.v,D.v] w (PMX X0 r (fun _=>r) (fun i j=>d*B i (k+j) - M.sm k (fun t=>crx k A (B i) t*B j t)) w):=by
 have HD:=Lib.hid hD
 clear hD
 have hZ0:=zs_start hX
 have hZ1:=hZ0.more (f:=D.is) D.stb hDi
 clear hZ0
 have hZ2:=hZ1.more (f:=Mt k (fun _=>k) A a) (Mt.stb _ _ _ _) ha
 clear hZ1
 have hZ3:=hZ2.more (f:=Mt r (fun _=>m) B rs) (Mt.stb _ _ _ _) hr
 clear hZ2
 go_enter Tryz.func27,Tryz.ntmps27
 go_wp2_with (refine zsb 25 (.tmp 0) #[rs.v] rfl rfl rfl hZ3 (fun bk1 X4 W1 hZ4=>?_))
 clear hZ3
 simp only [Stop,Act.put,zzC,zzD,zzE]
 go_wp2_with (refine zsb 26 (.tmp 1) #[a.v] rfl rfl rfl hZ4 (fun bk2 X5 W2 hZ5=>?_))
 clear hZ4
 simp only [Stop,Act.put,zzC,zzD,zzE]
 go_wp2_with (refine zsb 30 (.tmp 2) #[.bool D.b,.slice D.a D.n D.c] rfl rfl rfl hZ5 (fun bk3 X6 W3 hZ6=>?_))
 clear hZ5
 simp only [Stop,Act.put,zzC,zzD,zzE]
 go_wp2_with (refine zso rfl (fun K hK=>wp_load1 (v:=a.v) 26 (.tmp 4) rfl bk2 0 #[a.v] 26 (hZ6.es.at' _ (zzG (i:=1) rfl)) rfl ag26 (by kernel_rfl) (hK _ _ ?_)))
 simp only [Stop,Act.put,zzC,zzD,zzE]
 go_wp2_with (refine zso rfl (fun K hK=>wp_lenq (.tmp 9) 26 27 a rfl (by kernel_rfl) rfl (hZ6.get 1 (f:=Mt k (fun _=>k) A a) rfl).n (hK _ _ ?_)))
 simp only [Stop,Act.put,zzC,zzD,zzE]
 go_wp2_with (refine zsa 3 #[.int .i64 0] (.int .i64 0) rfl rfl zv3 rfl hZ6 (fun bk4 X7 W4 hZ7=>?_))
 clear hZ6
 simp only [Stop,Act.put,zzC,zzD,zzE]
 go_wp2_with (refine zss 3 (.tmp 7) (.tmp 10) 0 bk4 0 #[.int .i64 0] 3 1 [.int .i64 (((k:Nat):Int))] #[.int .i64 (((k:Nat):Int))] [(bk4,#[.int .i64 (((k:Nat):Int))],3),(bk3,#[.bool D.b,.slice D.a D.n D.c],30),(bk2,#[a.v],26),(bk1,#[rs.v],25)] rfl rfl rfl rfl sz3 hZ7 rfl rfl (zzF (by kernel_rfl)) (by kernel_rfl) (by kernel_rfl) (by kernel_rfl) (fun W5 hZ8=>?_))
 clear hZ7
 simp only [Stop,Act.put,zzC,zzD,zzE]
 have hZ9:=hZ8.perm ((List.Perm.cons _ ((List.Perm.cons _ (List.Perm.swap _ _ _)).trans (List.Perm.swap _ _ _))).trans (List.Perm.swap _ _ _))
 clear hZ8
 have hZ10:=hZ9.release hX
 clear hZ9
 have hZ11:=hZ10.perm ((List.Perm.cons _ (List.Perm.swap _ _ _)).trans (List.Perm.swap _ _ _))
 clear hZ10
 have hZ12:=hZ11.release hX
 clear hZ11
 have hZ13:=hZ12.release hX
 clear hZ12
 go_wp2_with (refine zso rfl (fun K hK=>wp_load1 (v:=rs.v) 25 (.tmp 3) rfl bk1 0 #[rs.v] 25 (hZ13.get 2 (f:=Cf bk1 #[rs.v] 25) rfl).1 rfl ag25 (by kernel_rfl) (hK _ _ ?_)))
 simp only [Stop,Act.put,zzC,zzD,zzE]
 go_wp2_with (refine zso rfl (fun K hK=>wp_lenq (.tmp 11) 25 27 rs rfl (by kernel_rfl) rfl (hZ13.get 3 (f:=Mt r (fun _=>m) B rs) rfl).n (hK _ _ ?_)))
 simp only [Stop,Act.put,zzC,zzD,zzE]
 go_wp2_with (refine zso rfl (fun K hK=>wp_mkf 62 #[.tmp 4,.tmp 3,.tmp 7] #[.pointer (some ⟨bk2,0,none⟩),.pointer (some ⟨bk1,0,none⟩),.pointer (some ⟨bk4,0,none⟩)] rfl (map3 rfl rfl rfl) (hK _ _ ?_)))
 simp only [Stop,Act.put,zzC,zzD,zzE]
 go_wp2_with fail
 refine (uMadeL hZ13.nx r 62 #[.pointer (some ⟨bk2,0,none⟩),.pointer (some ⟨bk1,0,none⟩),.pointer (some ⟨bk4,0,none⟩)] (fun _=>k) (fun i=>crx k A (B i)) (by omega) ⟨fun _ _=>rfl,fun i hi X' W' hx he_ hb=>(show Calls _ _ #[.int .i64 ((i:Nat):Int),.pointer (some ⟨bk2,0,none⟩),.pointer (some ⟨bk1,0,none⟩),.pointer (some ⟨bk4,0,none⟩)] _ _ from uCond1 hx bk2 bk1 bk4 i hi hk hm hm2 he1 he (Cf.stb _ _ _ _ _ _ _ he_ (hZ13.get 1 (f:=Cf bk2 #[a.v] 26) rfl)) (Cf.stb _ _ _ _ _ _ _ he_ (hZ13.get 2 (f:=Cf bk1 #[rs.v] 25) rfl)) (Cf.stb _ _ _ _ _ _ _ he_ (hZ13.get 0 (f:=Cf bk4 #[.int .i64 (((k:Nat):Int))] 3) rfl)) (Mt.stb _ _ _ _ _ _ _ _ he_ (hZ13.get 4 (f:=Mt k (fun _=>k) A a) rfl)) (Mt.stb _ _ _ _ _ _ _ _ he_ (hZ13.get 3 (f:=Mt r (fun _=>m) B rs) rfl)) bA bB HD.out)⟩).mono ?_
 rintro zz W6 ⟨s1,rfl,hi_s1,hB⟩
 have hZ14:=hZ13.later hB
 clear hB hZ13
 have hZ15:=hZ14.more (f:=Mt r (fun _=>k) (fun i=>crx k A (B i)) s1) (Mt.stb _ _ _ _) hi_s1
 clear hZ14 hi_s1
 go_wp2_with (refine zsa 25 #[.slice none 0 0] (.slice none 0 0) rfl rfl zv25 rfl hZ15 (fun bk5 X16 W7 hZ16=>?_))
 clear hZ15
 simp only [Stop,Act.put,zzC,zzD,zzE]
 go_wp2_with (refine zss 25 (.tmp 8) (.tmp 14) 0 bk5 0 #[.slice none 0 0] 25 1 [s1.v] #[s1.v] [(bk5,#[s1.v],25),(bk3,#[.bool D.b,.slice D.a D.n D.c],30)] rfl rfl rfl rfl sz25 hZ16 rfl rfl (zzF (by kernel_rfl)) (by kernel_rfl) (by kernel_rfl) (by kernel_rfl) (fun W8 hZ17=>?_))
 clear hZ16
 simp only [Stop,Act.put,zzC,zzD,zzE]
 have hZ18:=hZ17.perm (List.Perm.swap _ _ _)
 clear hZ17
 have hZ19:=hZ18.release hX
 clear hZ18
 have hZ20:=hZ19.release hX
 clear hZ19
 go_wp2_with (refine zso rfl (fun K hK=>wp_load1 (v:=rs.v) 25 (.tmp 3) rfl bk1 0 #[rs.v] 25 (hZ20.get 5 (f:=Cf bk1 #[rs.v] 25) rfl).1 rfl ag25 (by kernel_rfl) (hK _ _ ?_)))
 simp only [Stop,Act.put,zzC,zzD,zzE]
 go_wp2_with (refine zso rfl (fun K hK=>wp_lenq (.tmp 15) 25 27 rs rfl (by kernel_rfl) rfl (hZ20.get 6 (f:=Mt r (fun _=>m) B rs) rfl).n (hK _ _ ?_)))
 simp only [Stop,Act.put,zzC,zzD,zzE]
 go_wp2_with (refine zso rfl (fun K hK=>wp_mkf 63 #[.tmp 3,.tmp 5,.tmp 7,.tmp 8] #[.pointer (some ⟨bk1,0,none⟩),.pointer (some ⟨bk3,0,none⟩),.pointer (some ⟨bk4,0,none⟩),.pointer (some ⟨bk5,0,none⟩)] rfl (map4 rfl rfl rfl rfl) (hK _ _ ?_)))
 simp only [Stop,Act.put,zzC,zzD,zzE]
 go_wp2_with fail
 refine (uMadeL hZ20.nx r 63 #[.pointer (some ⟨bk1,0,none⟩),.pointer (some ⟨bk3,0,none⟩),.pointer (some ⟨bk4,0,none⟩),.pointer (some ⟨bk5,0,none⟩)] (fun _=>r) (fun i j=>d*B i (k+j) - M.sm k (fun t=>crx k A (B i) t*B j t)) (by omega) ⟨fun _ _=>rfl,fun i hi X' W' hx he_ hb=>(show Calls _ _ #[.int .i64 ((i:Nat):Int),.pointer (some ⟨bk1,0,none⟩),.pointer (some ⟨bk3,0,none⟩),.pointer (some ⟨bk4,0,none⟩),.pointer (some ⟨bk5,0,none⟩)] _ _ from uCond2 hx bk1 bk3 bk4 bk5 i hi hk hm hm2 he1 he (Cf.stb _ _ _ _ _ _ _ he_ (hZ20.get 1 (f:=Cf bk3 #[.bool D.b,.slice D.a D.n D.c] 30) rfl)) (Cf.stb _ _ _ _ _ _ _ he_ (hZ20.get 5 (f:=Cf bk1 #[rs.v] 25) rfl)) (Cf.stb _ _ _ _ _ _ _ he_ (hZ20.get 3 (f:=Cf bk4 #[.int .i64 (((k:Nat):Int))] 3) rfl)) (Cf.stb _ _ _ _ _ _ _ he_ (hZ20.get 0 (f:=Cf bk5 #[s1.v] 25) rfl)) (D.stb _ _ _ _ he_ (hZ20.get 8 (f:=D.is) rfl)) ez_D bD_ (Mt.stb _ _ _ _ _ _ _ _ he_ (hZ20.get 2 (f:=Mt r (fun _=>k) (fun i=>crx k A (B i)) s1) rfl)) (Mt.stb _ _ _ _ _ _ _ _ he_ (hZ20.get 6 (f:=Mt r (fun _=>m) B rs) rfl)) bA bB)⟩).mono ?_
 rintro zz W9 ⟨s2,rfl,hi_s2,hB⟩
 have hZ21:=hZ20.later hB
 clear hB hZ20
 have hZ22:=hZ21.more (f:=Mt r (fun _=>r) (fun i j=>d*B i (k+j) - M.sm k (fun t=>crx k A (B i) t*B j t)) s2) (Mt.stb _ _ _ _) hi_s2
 clear hZ21 hi_s2
 go_wp2
 go_ret
 exact ⟨s2,rfl,hZ22.out 0 (f:=Mt r (fun _=>r) (fun i j=>d*B i (k+j) - M.sm k (fun t=>crx k A (B i) t*B j t)) s2) rfl,hZ22.below⟩
end Go.Proofs.YtjclllindbfmhabGreatDoor
