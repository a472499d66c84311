/- Parts of the proof. -/
import Derived.Test.YtjclllindbfmhabGreatDoorHs0
import Derived.Test.YtjclllindbfmhabGreatDoorHs32
import Derived.Test.YtjclllindbfmhabGreatDoorHs27
import Derived.Test.YtjclllindbfmhabGreatDoorHs22
import Derived.Test.YtjclllindbfmhabGreatDoorHs28
set_option linter.unusedSimpArgs false
set_option linter.unusedVariables false
namespace Go.Proofs.YtjclllindbfmhabGreatDoor
/- Package quad: the walk of Least. No statement of the seat is proved here. -/
open Go Go.RowKit
open Classical in
open Classical in
set_option maxRecDepth 100000 in
set_option maxHeartbeats 12800000 in
theorem uLeastY {X0:Nat→Prop} {w:World} (hX:NX X0 w) (p s:Sl) (c:NL) {n e:Nat} {P:Nat→Nat→Int} {q:Nat→Int} {C:Int} (hp:Mt n (fun _=>n) P p X0 w) (hq:Ls n q s X0 w) (hc:c.is X0 w) (ez_c:c.z=C) (bP:∀ i j,i < n→j < n→Sz e (P i j)) (bq:∀ i,i < n→Sz e (q i)) (bC:Sz e C) (hn:n≤12) (he1:1≤e) (he:e≤200) (ho:(Sym n P∧∀ k,k < n→0 < M.dt (k+1) P)) (hD:M.dt n P ≠ 0):Calls Tryz.prog 16 #[.agg #[p.v,s.v,.bool c.b,.slice c.a c.n c.c]] w (PLe X0 n P q C w):=by
 have hdb:dtb e n≤3000:=dtb_le he hn
 have HO:=Lib.hid ho
 clear ho
 have HD:=Lib.hid hD
 clear hD
 have hZ0:=zs_start hX
 have hZ1:=hZ0.more (f:=c.is) c.stb hc
 clear hZ0
 have hZ2:=hZ1.more (f:=Ls n q s) (Ls.stb _ _ _) hq
 clear hZ1
 have hZ3:=hZ2.more (f:=Mt n (fun _=>n) P p) (Mt.stb _ _ _ _) hp
 clear hZ2
 go_enter Tryz.func16,Tryz.ntmps16
 go_wp2_with (refine zsb 32 (.tmp 0) #[p.v,s.v,.bool c.b,.slice c.a c.n c.c] rfl rfl rfl hZ3 (fun bk1 X4 W1 hZ4=>?_))
 clear hZ3
 simp only [Stop,Act.put,zzC,zzD,zzE]
 go_wp2_with (refine zsa 30 #[.bool false,.slice none 0 0] (.agg #[.bool false,.slice none 0 0]) rfl rfl zv30 rfl hZ4 (fun bk2 X5 W2 hZ5=>?_))
 clear hZ4
 simp only [Stop,Act.put,zzC,zzD,zzE]
 go_wp2_with (refine zsa 30 #[.bool false,.slice none 0 0] (.agg #[.bool false,.slice none 0 0]) rfl rfl zv30 rfl hZ5 (fun bk3 X6 W3 hZ6=>?_))
 clear hZ5
 simp only [Stop,Act.put,zzC,zzD,zzE]
 go_wp2_with (refine zso rfl (fun K hK=>wp_fda (v:=.pointer (some ⟨bk1,0,none⟩)) 32 (.tmp 1) 0 rfl rfl (fun _=>by kernel_rfl) (hK _ _ ?_)))
 simp only [Stop,Act.put,zzC,zzD,zzE]
 go_wp2_with (refine zso rfl (fun K hK=>wp_load1 (v:=p.v) 26 (.tmp 6) rfl bk1 0 #[p.v,s.v,.bool c.b,.slice c.a c.n c.c] 32 (hZ6.es.at' _ (zzG (i:=2) rfl)) rfl ag26 (by kernel_rfl) (hK _ _ ?_)))
 simp only [Stop,Act.put,zzC,zzD,zzE]
 go_wp2_with fail
 refine ((lDefinite hZ6.nx p (e:=e) (by omega) (by omega) (by omega) (hZ6.get 0 (f:=Mt n (fun _=>n) P p) rfl) bP).mono (fun _ _ h=>by rw [decide_eq_true HO.out] at h; exact h)).mono ?_
 rintro zz W4 ⟨rfl,hB⟩
 have hZ7:=hZ6.later hB
 clear hB hZ6
 go_wp2_with (refine zso rfl (fun K hK=>wp_fda (v:=.pointer (some ⟨bk1,0,none⟩)) 32 (.tmp 1) 0 rfl rfl (fun _=>by kernel_rfl) (hK _ _ ?_)))
 simp only [Stop,Act.put,zzC,zzD,zzE]
 go_wp2_with (refine zso rfl (fun K hK=>wp_load1 (v:=p.v) 26 (.tmp 13) rfl bk1 0 #[p.v,s.v,.bool c.b,.slice c.a c.n c.c] 32 (hZ7.es.at' _ (zzG (i:=2) rfl)) rfl ag26 (by kernel_rfl) (hK _ _ ?_)))
 simp only [Stop,Act.put,zzC,zzD,zzE]
 go_wp2_with (refine zso rfl (fun K hK=>wp_fda (v:=.pointer (some ⟨bk1,1,none⟩)) 32 (.tmp 1) 1 rfl rfl (fun _=>by kernel_rfl) (hK _ _ ?_)))
 simp only [Stop,Act.put,zzC,zzD,zzE]
 go_wp2_with (refine zso rfl (fun K hK=>wp_load1 (v:=s.v) 27 (.tmp 15) rfl bk1 1 #[p.v,s.v,.bool c.b,.slice c.a c.n c.c] 32 (hZ7.es.at' _ (zzG (i:=2) rfl)) rfl ag27 (by kernel_rfl) (hK _ _ ?_)))
 simp only [Stop,Act.put,zzC,zzD,zzE]
 go_wp2_with fail
 refine (lSolN hZ7.nx p s (e:=e) hn he1 he (hZ7.get 0 (f:=Mt n (fun _=>n) P p) rfl) (hZ7.get 1 (f:=Ls n q s) rfl) bP bq HD.out).mono ?_
 rintro zz W5 ⟨sn,qd,rfl,hi_sn,ez_qd,hi_qd,hB⟩
 have hZ8:=hZ7.later hB
 clear hB hZ7
 have hZ9:=hZ8.more (f:=Ls n (crx n P q) sn) (Ls.stb _ _ _) hi_sn
 clear hZ8 hi_sn
 have hZ10:=hZ9.more (f:=qd.is) qd.stb hi_qd
 clear hZ9 hi_qd
 go_wp2_with (refine zss 30 (.tmp 3) (.tmp 19) 1 bk2 0 #[.bool false,.slice none 0 0] 30 2 [.bool qd.b,.slice qd.a qd.n qd.c] #[.bool qd.b,.slice qd.a qd.n qd.c] [(bk3,#[.bool false,.slice none 0 0],30),(bk2,#[.bool qd.b,.slice qd.a qd.n qd.c],30),(bk1,#[p.v,s.v,.bool c.b,.slice c.a c.n c.c],32)] rfl rfl rfl rfl sz30 hZ10 rfl rfl (zzF (by kernel_rfl)) (by kernel_rfl) (by kernel_rfl) (by kernel_rfl) (fun W6 hZ11=>?_))
 clear hZ10
 simp only [Stop,Act.put,zzC,zzD,zzE]
 go_wp2
 obtain ⟨XR4,hZ12⟩:∃ Xr,Zs w W6 X0 Xr [(bk3,#[.bool false,.slice none 0 0],30),(bk2,#[.bool qd.b,.slice qd.a qd.n qd.c],30),(bk1,#[p.v,s.v,.bool c.b,.slice c.a c.n c.c],32)] [qd.is,Ls n (crx n P q) sn,Mt n (fun _=>n) P p,Ls n q s,c.is]:=⟨_,hZ11⟩
 clear hZ11
 have hne0_1:=box_ne hZ12 0 1 rfl rfl (by decide)
 have hne1_0:=box_ne hZ12 1 0 rfl rfl (by decide)
 have hVS4:∀ kq,kq ∈ ([veq (sn.v),veq (qd.v),veq (qd.v),veq (.pointer (some ⟨bk1,2,none⟩)),veq (c.v),vnum ((M.dt n P)*C),veq (.pointer (some ⟨bk1,1,none⟩)),veq (s.v),veq (sn.v),vnum (M.sm n (fun t=>q t*crx n P q t)),vnum (((M.dt n P)*C) - (M.sm n (fun t=>q t*crx n P q t))),veq (.int .i64 0),veq (sn.v),vany,vstN bk3 (((M.dt n P)*C) - (M.sm n (fun t=>q t*crx n P q t))) 30]:List VF)→VSt kq:=by
  intro kq hkq
  simp only [List.mem_cons,List.not_mem_nil,or_false] at hkq
  rcases hkq with rfl | rfl | rfl | rfl | rfl | rfl | rfl | rfl | rfl | rfl | rfl | rfl | rfl | rfl | rfl
  ·
   exact (zve _).st
  ·
   exact (zve _).st
  ·
   exact (zve _).st
  ·
   exact (zve _).st
  ·
   exact (zve _).st
  ·
   exact (vnum_se _).st
  ·
   exact (zve _).st
  ·
   exact (zve _).st
  ·
   exact (zve _).st
  ·
   exact (vnum_se _).st
  ·
   exact (vnum_se _).st
  ·
   exact (zve _).st
  ·
   exact (zve _).st
  ·
   exact (vany_se).st
  ·
   exact vstN_st _ _ _
 refine wp_region_s 15 [some 21,some 22,some 23,some 24,some 25,some 26,some 27,some 28,some 29,some 30,some 31,some 32,some 2,none,none] [veq (sn.v),veq (qd.v),veq (qd.v),veq (.pointer (some ⟨bk1,2,none⟩)),veq (c.v),vnum ((M.dt n P)*C),veq (.pointer (some ⟨bk1,1,none⟩)),veq (s.v),veq (sn.v),vnum (M.sm n (fun t=>q t*crx n P q t)),vnum (((M.dt n P)*C) - (M.sm n (fun t=>q t*crx n P q t))),veq (.int .i64 0),veq (sn.v),vany,vstN bk3 (((M.dt n P)*C) - (M.sm n (fun t=>q t*crx n P q t))) 30] (fun _ _ X1 l1=>XR4=X1∧∃ Cz0:Array Value,Cz0.size=2∧[(bk3,Cz0,30),(bk2,#[.bool qd.b,.slice qd.a qd.n qd.c],30),(bk1,#[p.v,s.v,.bool c.b,.slice c.a c.n c.c],32)]=l1) [qd.is,Ls n (crx n P q) sn,Mt n (fun _=>n) P p,Ls n q s,c.is] (by kernel_rfl) (by kernel_rfl) (by rfl) (by decide) (by rfl) (fun _=>⟨XR4,_,⟨rfl,_,rfl,rfl⟩,hZ12.later (Below.refl _ _).drew⟩) ?_ ?_
 ·
  intro iq hlq hiq LL uu ww aa X1 l1 hLi hLc hR hJ hd hall hev hin hold
  clear hZ12
  obtain rfl | rfl | rfl | rfl | rfl | rfl | rfl | rfl | rfl | rfl | rfl | rfl | rfl | rfl | rfl:iq=0∨iq=1∨iq=2∨iq=3∨iq=4∨iq=5∨iq=6∨iq=7∨iq=8∨iq=9∨iq=10∨iq=11∨iq=12∨iq=13∨iq=14:=by omega
  ·
   refine zos hJ (fun _=>hR) ?_
   obtain ⟨eX,Cz0,hsCz0,el⟩:=hR
   subst eX
   subst el
   have hL2:LL 12=false:=by
    cases q12:LL 12 with
    | false=>rfl
    | true =>
     have q0:=hLc 12 (by decide) q12 0 (by kernel_rfl)
     rw [hLi] at q0
     cases q0
   exact .inr ⟨rfl,fun K' hK=>wp_move (.tmp 2) rfl (zet ((hold 12 2 (by decide) hL2 rfl).trans rfl)) (hK _ _ hJ rfl zvs)⟩
  ·
   refine zos hJ (fun _=>hR) ?_
   obtain ⟨eX,Cz0,hsCz0,el⟩:=hR
   subst eX
   subst el
   exact .inr ⟨rfl,fun K' hK=>wp_load 30 (.tmp 3) rfl bk2 0 2 #[.bool qd.b,.slice qd.a qd.n qd.c] #[.bool qd.b,.slice qd.a qd.n qd.c] 30 (hJ.es.at' _ (zzG (i:=1) rfl)) (zet ((hev 3 (by decide)).trans rfl)) ag30 sz30 (zzF (by kernel_rfl)) (by kernel_rfl) (hK _ _ hJ rfl zvs)⟩
  ·
   refine zos hJ (fun _=>hR) ?_
   obtain ⟨eX,Cz0,hsCz0,el⟩:=hR
   subst eX
   subst el
   exact .inr ⟨rfl,fun K' hK=>wp_load 30 (.tmp 3) rfl bk2 0 2 #[.bool qd.b,.slice qd.a qd.n qd.c] #[.bool qd.b,.slice qd.a qd.n qd.c] 30 (hJ.es.at' _ (zzG (i:=1) rfl)) (zet ((hev 3 (by decide)).trans rfl)) ag30 sz30 (zzF (by kernel_rfl)) (by kernel_rfl) (hK _ _ hJ rfl zvs)⟩
  ·
   refine zos hJ (fun _=>hR) ?_
   obtain ⟨eX,Cz0,hsCz0,el⟩:=hR
   subst eX
   subst el
   exact .inr ⟨rfl,fun K' hK=>wp_fda (v:=.pointer (some ⟨bk1,2,none⟩)) 32 (.tmp 1) 2 rfl (zet ((hev 1 (by decide)).trans rfl)) (fun _=>by kernel_rfl) (hK _ _ hJ rfl zvs)⟩
  ·
   refine zos hJ (fun _=>hR) ?_
   obtain ⟨eX,Cz0,hsCz0,el⟩:=hR
   subst eX
   subst el
   exact .inr ⟨rfl,fun K' hK=>wp_load 30 (.tmp 24) rfl bk1 2 2 #[p.v,s.v,.bool c.b,.slice c.a c.n c.c] #[.bool c.b,.slice c.a c.n c.c] 32 (hJ.es.at' _ (zzG (i:=2) rfl)) (zj (hin 3 24 rfl) (show uu 3=.pointer (some ⟨bk1,2,none⟩) from (hd 3 (by decide) (by kernel_rfl)).2)) ag30 sz30 (zzF (by kernel_rfl)) (by kernel_rfl) (hK _ _ hJ rfl zvs)⟩
  ·
   refine zos hJ (fun _=>hR) ?_
   obtain ⟨eX,Cz0,hsCz0,el⟩:=hR
   subst eX
   subst el
   refine .inr ⟨rfl,fun K' hK=>?_⟩
   refine zcz (.func 12) #[.tmp 23,.tmp 25] #[30,30] 12 #[] #[qd.v,c.v] _ rfl rfl (map2 (zj (hin 2 23 rfl) (show uu 2=qd.v from (hd 2 (by decide) (by kernel_rfl)).2)) (zj (hin 4 25 rfl) (show uu 4=c.v from (hd 4 (by decide) (by kernel_rfl)).2))) rfl (fun _ _=>rfl) (zMul hJ.nx (hJ.get 0 (f:=qd.is) rfl) (hJ.get 4 (f:=c.is) rfl) ez_qd ez_c (dt_sz bP) bC (by omega) (by omega)) ?_
   rintro zz ww2 ⟨q1,rfl,ez_q1,hi_q1,hB⟩
   exact ⟨_,rfl,hK _ _ (hJ.later hB) ⟨q1,rfl,ez_q1,hi_q1⟩ (zvl hVS4 hB)⟩
  ·
   refine zos hJ (fun _=>hR) ?_
   obtain ⟨eX,Cz0,hsCz0,el⟩:=hR
   subst eX
   subst el
   exact .inr ⟨rfl,fun K' hK=>wp_fda (v:=.pointer (some ⟨bk1,1,none⟩)) 32 (.tmp 1) 1 rfl (zet ((hev 1 (by decide)).trans rfl)) (fun _=>by kernel_rfl) (hK _ _ hJ rfl zvs)⟩
  ·
   refine zos hJ (fun _=>hR) ?_
   obtain ⟨eX,Cz0,hsCz0,el⟩:=hR
   subst eX
   subst el
   exact .inr ⟨rfl,fun K' hK=>wp_load1 (v:=s.v) 27 (.tmp 27) rfl bk1 1 #[p.v,s.v,.bool c.b,.slice c.a c.n c.c] 32 (hJ.es.at' _ (zzG (i:=2) rfl)) (zj (hin 6 27 rfl) (show uu 6=.pointer (some ⟨bk1,1,none⟩) from (hd 6 (by decide) (by kernel_rfl)).2)) ag27 (by kernel_rfl) (hK _ _ hJ rfl zvs)⟩
  ·
   refine zos hJ (fun _=>hR) ?_
   obtain ⟨eX,Cz0,hsCz0,el⟩:=hR
   subst eX
   subst el
   have hT2:aa.tmps[2]?=some (sn.v):=by
    cases q12:LL 12 with
    | false=>exact (hold 12 2 (by decide) q12 rfl).trans rfl
    | true=>exact (hin 12 2 rfl).trans (congrArg some (show uu 12=sn.v from hall 12 (by decide) q12))
   exact .inr ⟨rfl,fun K' hK=>wp_move (.tmp 2) rfl (zet hT2) (hK _ _ hJ rfl zvs)⟩
  ·
   refine zos hJ (fun _=>hR) ?_
   obtain ⟨eX,Cz0,hsCz0,el⟩:=hR
   subst eX
   subst el
   refine .inr ⟨rfl,fun K' hK=>?_⟩
   refine zcz (.func 33) #[.tmp 28,.tmp 29] #[27,27] 33 #[] #[s.v,sn.v] _ rfl rfl (map2 (zj (hin 7 28 rfl) (show uu 7=s.v from (hd 7 (by decide) (by kernel_rfl)).2)) (zj (hin 8 29 rfl) (show uu 8=sn.v from (hd 8 (by decide) (by kernel_rfl)).2))) rfl (fun _ _=>rfl) ((show Calls _ _ #[s.v,sn.v] _ (PNX _ (M.sm n (fun t=>q t*crx n P q t)) _) from uInner hJ.nx s sn (e:=e+(dtb e n)) (hJ.get 3 (f:=Ls n q s) rfl) (hJ.get 1 (f:=Ls n (crx n P q) sn) rfl) (by omega) (fun (tq:Nat) htq=>(bq tq htq).mono (Nat.le_add_right _ _)) (fun (tq:Nat) htq=>((fun (j:Nat) (_:j < n)=>crx_sz bP bq j) tq (by omega)).mono (Nat.le_add_left _ _)) (by omega) (by omega))) ?_
   rintro zz ww2 ⟨q2,rfl,ez_q2,hi_q2,hB⟩
   exact ⟨_,rfl,hK _ _ (hJ.later hB) ⟨q2,rfl,ez_q2,hi_q2⟩ (zvl hVS4 hB)⟩
  ·
   refine zos hJ (fun _=>hR) ?_
   obtain ⟨eX,Cz0,hsCz0,el⟩:=hR
   subst eX
   subst el
   obtain ⟨q1,e5,ez_q1,hi_q1⟩:=(show (vnum ((M.dt n P)*C)) (uu 5) XR4 ww from (hd 5 (by decide) (by kernel_rfl)).2)
   obtain ⟨q2,e9,ez_q2,hi_q2⟩:=(show (vnum (M.sm n (fun t=>q t*crx n P q t))) (uu 9) XR4 ww from (hd 9 (by decide) (by kernel_rfl)).2)
   replace hJ:=hJ.more (f:=q1.is) q1.stb hi_q1
   replace hJ:=hJ.more (f:=q2.is) q2.stb hi_q2
   refine .inr ⟨rfl,fun K' hK=>?_⟩
   refine zcz (.func 35) #[.tmp 26,.tmp 30] #[30,30] 35 #[] #[q1.v,q2.v] _ rfl rfl (map2 (zj (hin 5 26 rfl) e5) (zj (hin 9 30 rfl) e9)) rfl (fun _ _=>rfl) (zSub hJ.nx (hJ.get 1 (f:=q1.is) rfl) (hJ.get 0 (f:=q2.is) rfl) ez_q1 ez_q2 (Sz.mul (dt_sz bP) bC) (sm_sz (fun (tq:Nat) htq=>Sz.mul (bq tq htq) ((fun (j:Nat) (_:j < n)=>crx_sz bP bq j) tq (by omega)))) (by omega) (by omega)) ?_
   rintro zz ww2 ⟨q3,rfl,ez_q3,hi_q3,hB⟩
   exact ⟨_,rfl,hK _ _ ((hJ.only [qd.is,Ls n (crx n P q) sn,Mt n (fun _=>n) P p,Ls n q s,c.is] (by simp)).later hB) ⟨q3,rfl,ez_q3,hi_q3⟩ (zvl hVS4 hB)⟩
  ·
   refine zos hJ (fun _=>hR) ?_
   obtain ⟨eX,Cz0,hsCz0,el⟩:=hR
   subst eX
   subst el
   exact .inr ⟨rfl,fun K' hK=>wp_move (.tmp 5) rfl (zet ((hev 5 (by decide)).trans rfl)) (hK _ _ hJ rfl zvs)⟩
  ·
   refine zos hJ (fun _=>hR) ?_
   obtain ⟨eX,Cz0,hsCz0,el⟩:=hR
   subst eX
   subst el
   exact .inr ⟨rfl,fun K' hK=>wp_asgn (.tmp 21) rfl (zj (hin 0 21 rfl) (show uu 0=sn.v from (hd 0 (by decide) (by kernel_rfl)).2)) (hK _ _ hJ rfl zvs)⟩
  ·
   obtain ⟨eX,Cz0,hsCz0,el⟩:=hR
   subst eX
   subst el
   have hXb:XR4 bk2:=hJ.own _ (zzG (i:=1) rfl)
   refine .inr ⟨rfl,fun K' hK=>wp_store 30 (.tmp 3) (.tmp 22) rfl 1 bk2 0 #[.bool qd.b,.slice qd.a qd.n qd.c] 30 2 [.bool qd.b,.slice qd.a qd.n qd.c] hJ.es rfl (zet ((hev 3 (by decide)).trans rfl)) (by rw [(zj (hin 1 22 rfl) (show uu 1=qd.v from (hd 1 (by decide) (by kernel_rfl)).2))]; rfl) sz30 rfl (zzF (by kernel_rfl)) (by kernel_rfl) (fun ww2 hE hk hz=>?_)⟩
   have hP:=(hJ.put (C':=#[.bool qd.b,.slice qd.a qd.n qd.c]) (j:=1) rfl (by
    have e:putC #[.bool qd.b,.slice qd.a qd.n qd.c] 0 [.bool qd.b,.slice qd.a qd.n qd.c]=#[.bool qd.b,.slice qd.a qd.n qd.c]:=by kernel_rfl
    rw [e] at hE
    exact hE) hk hz).only [qd.is,Ls n (crx n P q) sn,Mt n (fun _=>n) P p,Ls n q s,c.is] (by simp)
   exact hK undef ww2 _ _ ⟨rfl,Cz0,hsCz0,rfl⟩ hP trivial (vzL_p hXb hk hz (by
    intro kq hkq
    simp only [List.mem_cons,List.not_mem_nil,or_false] at hkq
    rcases hkq with rfl | rfl | rfl | rfl | rfl | rfl | rfl | rfl | rfl | rfl | rfl | rfl | rfl | rfl | rfl
    ·
     exact .inl ((zve _).sp _)
    ·
     exact .inl ((zve _).sp _)
    ·
     exact .inl ((zve _).sp _)
    ·
     exact .inl ((zve _).sp _)
    ·
     exact .inl ((zve _).sp _)
    ·
     exact .inl ((vnum_se _).sp _)
    ·
     exact .inl ((zve _).sp _)
    ·
     exact .inl ((zve _).sp _)
    ·
     exact .inl ((zve _).sp _)
    ·
     exact .inl ((vnum_se _).sp _)
    ·
     exact .inl ((vnum_se _).sp _)
    ·
     exact .inl ((zve _).sp _)
    ·
     exact .inl ((zve _).sp _)
    ·
     exact .inl ((vany_se).sp _)
    ·
     exact .inl (vstN_sp hne0_1 _ _)))
  ·
   obtain ⟨eX,Cz0,hsCz0,el⟩:=hR
   subst eX
   subst el
   obtain ⟨q3,e10,ez_q3,hi_q3⟩:=(show (vnum (((M.dt n P)*C) - (M.sm n (fun t=>q t*crx n P q t)))) (uu 10) XR4 ww from (hd 10 (by decide) (by kernel_rfl)).2)
   replace hJ:=hJ.more (f:=q3.is) q3.stb hi_q3
   have hXb:XR4 bk3:=hJ.own _ (zzG (i:=0) rfl)
   refine .inr ⟨rfl,fun K' hK=>wp_store 30 (.tmp 4) (.tmp 31) rfl 0 bk3 0 Cz0 30 2 [.bool q3.b,.slice q3.a q3.n q3.c] hJ.es rfl (zet ((hev 4 (by decide)).trans rfl)) (by rw [(zj (hin 10 31 rfl) e10)]; rfl) sz30 rfl (by omega) (by kernel_rfl) (fun ww2 hE hk hz=>?_)⟩
   have hP:=(hJ.put (j:=0) rfl hE hk hz).only [qd.is,Ls n (crx n P q) sn,Mt n (fun _=>n) P p,Ls n q s,c.is] (by simp)
   exact hK undef ww2 _ _ ⟨rfl,putC Cz0 0 _,by rw [putC_size]; exact hsCz0,rfl⟩ hP ⟨q3,ez_q3,(q3.stb _ _ _ _ (ext_put hXb hk hz) hi_q3),(put_cl (j:=0) hE rfl (by rw [hsCz0]; rfl))⟩ (vzL_p hXb hk hz (by
    intro kq hkq
    simp only [List.mem_cons,List.not_mem_nil,or_false] at hkq
    rcases hkq with rfl | rfl | rfl | rfl | rfl | rfl | rfl | rfl | rfl | rfl | rfl | rfl | rfl | rfl | rfl
    ·
     exact .inl ((zve _).sp _)
    ·
     exact .inl ((zve _).sp _)
    ·
     exact .inl ((zve _).sp _)
    ·
     exact .inl ((zve _).sp _)
    ·
     exact .inl ((zve _).sp _)
    ·
     exact .inl ((vnum_se _).sp _)
    ·
     exact .inl ((zve _).sp _)
    ·
     exact .inl ((zve _).sp _)
    ·
     exact .inl ((zve _).sp _)
    ·
     exact .inl ((vnum_se _).sp _)
    ·
     exact .inl ((vnum_se _).sp _)
    ·
     exact .inl ((zve _).sp _)
    ·
     exact .inl ((zve _).sp _)
    ·
     exact .inl ((vany_se).sp _)
    ·
     exact .inr (fun _=>⟨q3,ez_q3,(q3.stb _ _ _ _ (ext_put hXb hk hz) hi_q3),(put_cl (j:=0) hE rfl (by rw [hsCz0]; rfl))⟩)))
 clear hZ12
 intro LL uu W7 X1 l1 hLL hR hZ13 hd
 obtain ⟨eX,Cz0,hsCz0,el⟩:=hR
 subst eX
 subst el
 have e_0:uu 0=sn.v:=hd 0 (by decide)
 have e_1:uu 1=qd.v:=hd 1 (by decide)
 have e_2:uu 2=qd.v:=hd 2 (by decide)
 have e_3:uu 3=.pointer (some ⟨bk1,2,none⟩):=hd 3 (by decide)
 have e_4:uu 4=c.v:=hd 4 (by decide)
 obtain ⟨q1,e_5,ez_q1,hi_q1⟩:=(show (vnum ((M.dt n P)*C)) (uu 5) XR4 W7 from hd 5 (by decide))
 have e_6:uu 6=.pointer (some ⟨bk1,1,none⟩):=hd 6 (by decide)
 have e_7:uu 7=s.v:=hd 7 (by decide)
 have e_8:uu 8=sn.v:=hd 8 (by decide)
 obtain ⟨q2,e_9,ez_q2,hi_q2⟩:=(show (vnum (M.sm n (fun t=>q t*crx n P q t))) (uu 9) XR4 W7 from hd 9 (by decide))
 obtain ⟨q3,e_10,ez_q3,hi_q3⟩:=(show (vnum (((M.dt n P)*C) - (M.sm n (fun t=>q t*crx n P q t)))) (uu 10) XR4 W7 from hd 10 (by decide))
 have e_11:uu 11=.int .i64 0:=hd 11 (by decide)
 have e_12:uu 12=sn.v:=hd 12 (by decide)
 obtain ⟨q3_14,ez_q3_14,hi_q3_14,hcl14⟩:=(show (vstN bk3 (((M.dt n P)*C) - (M.sm n (fun t=>q t*crx n P q t))) 30) (uu 14) XR4 W7 from hd 14 (by decide))
 obtain rfl:=cl_eq (hZ13.es.at' _ (zzG (i:=0) rfl)) hcl14
 clear hcl14 hsCz0 hd hVS4
 simp only [layS,Act.put,zzC,zzD,zzE,Nat.zero_add,Nat.reduceAdd,List.drop_succ_cons,List.drop_zero,List.drop_nil,e_0,e_1,e_2,e_3,e_4,e_5,e_6,e_7,e_8,e_9,e_10,e_11,e_12]
 clear e_0 e_1 e_2 e_3 e_4 e_5 e_6 e_7 e_8 e_9 e_10 e_11 e_12
 have hZ14:=hZ13.more (f:=q1.is) q1.stb hi_q1
 clear hZ13 hi_q1
 have hZ15:=hZ14.more (f:=q2.is) q2.stb hi_q2
 clear hZ14 hi_q2
 have hZ16:=hZ15.more (f:=q3.is) q3.stb hi_q3
 clear hZ15 hi_q3
 have hZ17:=hZ16.more (f:=q3_14.is) q3_14.stb hi_q3_14
 clear hZ16 hi_q3_14
 go_wp2
 refine bodyPost_ret (v:=.tuple #[sn.v,.agg #[.bool qd.b,.slice qd.a qd.n qd.c],.agg #[.bool q3_14.b,.slice q3_14.a q3_14.n q3_14.c],.int .i64 0]) (results_tcct Tryz.results16 (hZ17.es.loadBox 1 rfl ag30 sz30 (zzF (by kernel_rfl)) (by kernel_rfl)) (hZ17.es.loadBox 0 rfl ag30 sz30 (zzF (by kernel_rfl)) (by kernel_rfl)) rfl rfl rfl rfl) rfl ?_
 exact ⟨sn,qd,q3_14,rfl,(hZ17.out 5 (f:=Ls n (crx n P q) sn) rfl),ez_qd,(hZ17.out 4 (f:=qd.is) rfl),ez_q3_14,(hZ17.out 0 (f:=q3_14.is) rfl),hZ17.below⟩
theorem ceq_t {x y:Int} (h:x=y):decide (cmpI x y=0)=true:=decide_eq_true (by
 refine Classical.byContradiction fun k=>?_
 have:cmpI x y ≠ 0:=k
 rw [cmpI_ne] at this
 exact this h)
section
variable {x:Nat→Int} {i m:Nat}
end
theorem vq_add (n:Nat) (A G:Nat→Nat→Int) (u v:Nat→Int) (D E d:Int) (x:Nat→Int):Vq n (fun i j=>A i j+d*G i j) (fun i=>u i+d*v i) (D+d*E) x=Vq n A u D x+d*Vq n G v E x:=by
 have e1:Qf n (fun i j=>A i j+d*G i j) x=Qf n A x+d*Qf n G x:=by
  unfold Qf
  rw [← M.sm_mul,← M.sm_add]
  refine M.sm_congr fun i _=>?_
  have:M.mulv n (fun i j=>A i j+d*G i j) x i=M.mulv n A x i+d*M.mulv n G x i:=by
   unfold M.mulv
   rw [← M.sm_mul,← M.sm_add]
   exact M.sm_congr fun j _=>by grind
  rw [this]; grind
 have e2:M.sm n (fun i=>(u i+d*v i)*x i)=M.sm n (fun i=>u i*x i)+d*M.sm n (fun i=>v i*x i):=by
  rw [← M.sm_mul,← M.sm_add]
  exact M.sm_congr fun i _=>by grind
 unfold Vq
 rw [e1,e2]; grind
section
variable {k r:Nat} {P W:Nat→Nat→Int} {q:Nat→Int} {C:Int}
/-- What stands in the first k rows and columns is as it was. -/
theorem lp_add (h0:∀ i j,i < k→j < k+r→W i j=P i j) {i j:Nat} (hi:i < r) (hj:j < r):lp k W i j=lp k P i j+M.dt k P*(W (k+i) (k+j) - P (k+i) (k+j)):=by
 have hd:M.dt k W=M.dt k P:=M.dt_congr fun a b ha hb=>h0 a b ha (by omega)
 unfold lp
 rw [hd,M.sm_congr (f:=fun t=>W t (k+i)*crx k W (fun u=>W u (k+j)) t) (g:=fun t=>P t (k+i)*crx k P (fun u=>P u (k+j)) t) fun t ht=>by rw [h0 t (k+i) ht (by omega),crx_congr (fun a b ha hb=>h0 a b ha (by omega)) (fun a ha=>h0 a (k+j) ha (by omega))]]
 grind
theorem lq_add {w:Nat→Int} (h0:∀ i j,i < k→j < k+r→W i j=P i j) (hq:∀ i,i < k→w i=q i) {i:Nat} (hi:i < r):lq k W w i=lq k P q i+M.dt k P*(w (k+i) - q (k+i)):=by
 have hd:M.dt k W=M.dt k P:=M.dt_congr fun a b ha hb=>h0 a b ha (by omega)
 unfold lq
 rw [hd,M.sm_congr (f:=fun t=>W t (k+i)*crx k W w t) (g:=fun t=>P t (k+i)*crx k P q t) fun t ht=>by rw [h0 t (k+i) ht (by omega),crx_congr (fun a b ha hb=>h0 a b ha (by omega)) hq]]
 grind
theorem lc_add {w:Nat→Int} {E:Int} (h0:∀ i j,i < k→j < k+r→W i j=P i j) (hq:∀ i,i < k→w i=q i):lc k W w E=lc k P q C+M.dt k P*(E - C):=by
 have hd:M.dt k W=M.dt k P:=M.dt_congr fun a b ha hb=>h0 a b ha (by omega)
 unfold lc
 rw [hd,M.sm_congr (f:=fun t=>w t*crx k W w t) (g:=fun t=>q t*crx k P q t) fun t ht=>by rw [hq t ht,crx_congr (fun a b ha hb=>h0 a b ha (by omega)) hq]]
 grind
/-- Before or after. -/
theorem sums_eq {w:Nat→Int} {E:Int} (h0:∀ i j,i < k→j < k+r→W i j=P i j) (hq:∀ i,i < k→w i=q i) (x:Nat→Int):Vq r (lp k W) (lq k W w) (lc k W w E) x=Vq r (lp k P) (lq k P q) (lc k P q C) x+M.dt k P*Vq r (fun i j=>W (k+i) (k+j) - P (k+i) (k+j)) (fun i=>w (k+i) - q (k+i)) (E - C) x:=by
 rw [← vq_add]
 exact vq_congr (fun i j hi hj=>lp_add h0 hi hj) (fun i hi=>lq_add h0 hq hi) (lc_add h0 hq) fun _ _=>rfl
end
/-- So many rows are lists of numbers. -/
def Rls (k:Nat) (c:Nat→Nat) (B:Nat→Nat→Int) (r:Nat→Sl):Fa:=fun X W=>∀ i,i < k→Ls (c i) (B i) (r i) X W
theorem Rls.stb (k:Nat) (c:Nat→Nat) (B:Nat→Nat→Int) (r:Nat→Sl):Stb (Rls k c B r):=fun X W X' W' he h i hi=>Ls.stb (c i) (B i) (r i) X W X' W' he (h i hi)
section
variable {w W:World} {X0:Nat→Prop} {c:Nat→Nat} {B:Nat→Nat→Int} {r:Nat→Sl} {D:Nat→Array Value} {T T1:TypeId} {m:Nat}
theorem Zs.tellRows (hx:NX X0 w):∀ {k:Nat} {X:Nat→Prop} {l:List (Nat × Array Value × TypeId)} {fs:List Fa},k≤m→Zs w W X0 X (rwl r D T k++l) (Rw 2 (fun i=>EN (B i)) m c r D :: fs)→∃ X',Zs w W X0 X' l (Rls k c B r :: Rw 2 (fun i=>EN (B i)) m c r D :: fs)
 | 0,X,_,_,_,h=>⟨X,h.more (Rls.stb _ _ _ _) (fun i hi=>absurd hi (Nat.not_lt_zero i))⟩
 | k+1,X,l,fs,hk,h=>by
  have hR:=h.get 0 (f:=Rw 2 (fun i=>EN (B i)) m c r D) rfl
  have hp:(rwl r D T (k+1)++l).Perm (owl (r k) (D k) T++(rwl r D T k++l)):=by
   rw [rwl,← List.append_assoc]
   exact List.Perm.append_right _ List.perm_append_comm
  obtain ⟨X1,h1⟩:=(h.perm hp).tell hx (hR k (by omega)).2.1 (hR k (by omega)).1 (hR k (by omega)).2.2
  have h2:=h1.only (Rw 2 (fun i=>EN (B i)) m c r D :: Ls (c k) (B k) (r k) :: fs) (by
   intro f hf
   simp only [List.mem_cons] at hf ⊢
   rcases hf with h | h | h
   ·
    exact .inr (.inl h)
   ·
    exact .inl h
   ·
    exact .inr (.inr h))
  obtain ⟨X2,h3⟩:=Zs.tellRows hx (show k≤m by omega) h2
  have hA:=h3.get 0 (f:=Rls k c B r) rfl
  have hB:=h3.get 2 (f:=Ls (c k) (B k) (r k)) rfl
  have h4:=h3.more (f:=Rls (k+1) c B r) (Rls.stb _ _ _ _) (fun i hi=>by
   by_cases e:i=k
   ·
    subst e; exact hB
   ·
    exact hA i (by omega))
  exact ⟨X2,h4.only _ (by
   intro f hf
   simp only [List.mem_cons] at hf ⊢
   rcases hf with h | h | h
   ·
    exact .inl h
   ·
    exact .inr (.inr (.inl h))
   ·
    exact .inr (.inr (.inr (.inr h))))⟩
theorem Zs.tellTab {X:Nat→Prop} {l:List (Nat × Array Value × TypeId)} {fs:List Fa} {s:Sl} {C:Array Value} (h:Zs w W X0 X (l++(owl s C T1++rwl r D T m)) (Rw 2 (fun i=>EN (B i)) m c r D :: fs)) (hx:NX X0 w) (hw:Wr 1 s C) (hn:s.n=m) (hC:∀ i,i < m→C[i]?=some (r i).v):∃ X',Zs w W X0 X' l (Mt m c B s :: fs):=by
 have hp:(l++(owl s C T1++rwl r D T m)).Perm (owl s C T1++(rwl r D T m++l)):=by
  rw [← List.append_assoc (owl s C T1)]
  exact List.perm_append_comm
 obtain ⟨X1,h1⟩:=(h.perm hp).releaseV hx hw hn (g:=fun i=>(r i).v) hC
 have h2:=h1.only (Rw 2 (fun i=>EN (B i)) m c r D :: Vs m (fun i=>(r i).v) s :: fs) (by
  intro f hf
  simp only [List.mem_cons] at hf ⊢
  rcases hf with h | h | h
  ·
   exact .inr (.inl h)
  ·
   exact .inl h
  ·
   exact .inr (.inr h))
 obtain ⟨X2,h3⟩:=Zs.tellRows hx (Nat.le_refl m) h2
 have hA:=h3.get 0 (f:=Rls m c B r) rfl
 have hB:=h3.get 2 (f:=Vs m (fun i=>(r i).v) s) rfl
 exact ⟨X2,(h3.more (f:=Mt m c B s) (Mt.stb _ _ _ _) ⟨hB.n,hB.sq.congr fun i cs hi hc=>⟨r i,hA i (hB.n ▸ hi),hc⟩⟩).only _ (by
  intro f hf
  simp only [List.mem_cons] at hf ⊢
  rcases hf with h | h
  ·
   exact .inl h
  ·
   exact .inr (.inr (.inr (.inr h))))⟩
end
end Go.Proofs.YtjclllindbfmhabGreatDoor
