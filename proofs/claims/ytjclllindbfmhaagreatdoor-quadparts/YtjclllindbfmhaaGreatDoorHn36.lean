/- Parts of the proof. -/
import Derived.Test.YtjclllindbfmhaaGreatDoorHn0
import Derived.Test.YtjclllindbfmhaaGreatDoorHn35
import Derived.Test.YtjclllindbfmhaaGreatDoorHn23
import Derived.Test.YtjclllindbfmhaaGreatDoorHn21
import Derived.Test.YtjclllindbfmhaaGreatDoorHn27
import Derived.Test.YtjclllindbfmhaaGreatDoorHn29
set_option linter.unusedSimpArgs false
set_option linter.unusedVariables false
namespace Go.Proofs.YtjclllindbfmhaaGreatDoor
/- Package quad: the walk of Least. No statement of the seat is proved here. -/
open Go Go.RowKit
open Classical in
open Classical in
set_option maxRecDepth 100000 in
set_option maxHeartbeats 12800000 in
theorem uLeastY {X0:Nat→Prop} {w:World} (hX:NX X0 w) (p s:Sl) (c:NL) {n e:Nat} {P:Nat→Nat→Int} {q:Nat→Int} {C:Int} (hp:Mt n (fun _=>n) P p X0 w) (hq:Ls n q s X0 w) (hc:c.is X0 w) (ez_c:c.z=C) (bP:∀ i j,i < n→j < n→Sz e (P i j)) (bq:∀ i,i < n→Sz e (q i)) (bC:Sz e C) (hn:n≤12) (he1:1≤e) (he:e≤200) (ho:(Sym n P∧∀ k,k < n→0 < M.dt (k+1) P)) (hD:M.dt n P ≠ 0):Calls Tryz.prog 30 #[.agg #[p.v,s.v,.bool c.b,.slice c.a c.n c.c]] w (PLe X0 n P q C w):=by
 have hdb:dtb e n≤3000:=dtb_le he hn
 have HO:=Lib.hid ho
 clear ho
 have HD:=Lib.hid hD
 clear hD
 have hZ0:=zs_start hX
 have hZ1:=hZ0.more (f:=c.is) c.stb hc
 clear hZ0
 have hZ2:=hZ1.more (f:=Ls n q s) (Ls.stb _ _ _) hq
 clear hZ1
 have hZ3:=hZ2.more (f:=Mt n (fun _=>n) P p) (Mt.stb _ _ _ _) hp
 clear hZ2
 go_enter Tryz.func30,Tryz.ntmps30
 go_wp2_with (refine zsb 32 (.tmp 0) #[p.v,s.v,.bool c.b,.slice c.a c.n c.c] rfl rfl rfl hZ3 (fun bk1 X4 W1 hZ4=>?_))
 clear hZ3
 simp only [Stop,Act.put,zzC,zzD,zzE]
 go_wp2_with (refine zsa 30 #[.bool false,.slice none 0 0] (.agg #[.bool false,.slice none 0 0]) rfl rfl zv30 rfl hZ4 (fun bk2 X5 W2 hZ5=>?_))
 clear hZ4
 simp only [Stop,Act.put,zzC,zzD,zzE]
 go_wp2_with (refine zsa 30 #[.bool false,.slice none 0 0] (.agg #[.bool false,.slice none 0 0]) rfl rfl zv30 rfl hZ5 (fun bk3 X6 W3 hZ6=>?_))
 clear hZ5
 simp only [Stop,Act.put,zzC,zzD,zzE]
 go_wp2_with (refine zso rfl (fun K hK=>wp_fda (v:=.pointer (some ⟨bk1,0,none⟩)) 32 (.tmp 1) 0 rfl rfl (fun _=>by kernel_rfl) (hK _ _ ?_)))
 simp only [Stop,Act.put,zzC,zzD,zzE]
 go_wp2_with (refine zso rfl (fun K hK=>wp_load1 (v:=p.v) 26 (.tmp 6) rfl bk1 0 #[p.v,s.v,.bool c.b,.slice c.a c.n c.c] 32 (hZ6.es.at' _ (zzG (i:=2) rfl)) rfl ag26 (by kernel_rfl) (hK _ _ ?_)))
 simp only [Stop,Act.put,zzC,zzD,zzE]
 go_wp2_with fail
 refine ((lDefinite hZ6.nx p (e:=e) (by omega) (by omega) (by omega) (hZ6.get 0 (f:=Mt n (fun _=>n) P p) rfl) bP).mono (fun _ _ h=>by rw [decide_eq_true HO.out] at h; exact h)).mono ?_
 rintro zz W4 ⟨rfl,hB⟩
 have hZ7:=hZ6.later hB
 clear hB hZ6
 go_wp2_with (refine zso rfl (fun K hK=>wp_fda (v:=.pointer (some ⟨bk1,0,none⟩)) 32 (.tmp 1) 0 rfl rfl (fun _=>by kernel_rfl) (hK _ _ ?_)))
 simp only [Stop,Act.put,zzC,zzD,zzE]
 go_wp2_with (refine zso rfl (fun K hK=>wp_load1 (v:=p.v) 26 (.tmp 13) rfl bk1 0 #[p.v,s.v,.bool c.b,.slice c.a c.n c.c] 32 (hZ7.es.at' _ (zzG (i:=2) rfl)) rfl ag26 (by kernel_rfl) (hK _ _ ?_)))
 simp only [Stop,Act.put,zzC,zzD,zzE]
 go_wp2_with (refine zso rfl (fun K hK=>wp_fda (v:=.pointer (some ⟨bk1,1,none⟩)) 32 (.tmp 1) 1 rfl rfl (fun _=>by kernel_rfl) (hK _ _ ?_)))
 simp only [Stop,Act.put,zzC,zzD,zzE]
 go_wp2_with (refine zso rfl (fun K hK=>wp_load1 (v:=s.v) 27 (.tmp 15) rfl bk1 1 #[p.v,s.v,.bool c.b,.slice c.a c.n c.c] 32 (hZ7.es.at' _ (zzG (i:=2) rfl)) rfl ag27 (by kernel_rfl) (hK _ _ ?_)))
 simp only [Stop,Act.put,zzC,zzD,zzE]
 go_wp2_with fail
 refine (lSolN hZ7.nx p s (e:=e) hn he1 he (hZ7.get 0 (f:=Mt n (fun _=>n) P p) rfl) (hZ7.get 1 (f:=Ls n q s) rfl) bP bq HD.out).mono ?_
 rintro zz W5 ⟨sn,qd,rfl,hi_sn,ez_qd,hi_qd,hB⟩
 have hZ8:=hZ7.later hB
 clear hB hZ7
 have hZ9:=hZ8.more (f:=Ls n (crx n P q) sn) (Ls.stb _ _ _) hi_sn
 clear hZ8 hi_sn
 have hZ10:=hZ9.more (f:=qd.is) qd.stb hi_qd
 clear hZ9 hi_qd
 go_wp2_with (refine zss 30 (.tmp 3) (.tmp 19) 1 bk2 0 #[.bool false,.slice none 0 0] 30 2 [.bool qd.b,.slice qd.a qd.n qd.c] #[.bool qd.b,.slice qd.a qd.n qd.c] [(bk3,#[.bool false,.slice none 0 0],30),(bk2,#[.bool qd.b,.slice qd.a qd.n qd.c],30),(bk1,#[p.v,s.v,.bool c.b,.slice c.a c.n c.c],32)] rfl rfl rfl rfl sz30 hZ10 rfl rfl (zzF (by kernel_rfl)) (by kernel_rfl) (by kernel_rfl) (by kernel_rfl) (fun W6 hZ11=>?_))
 clear hZ10
 simp only [Stop,Act.put,zzC,zzD,zzE]
 go_wp2
 obtain ⟨XR4,hZ12⟩:∃ Xr,Zs w W6 X0 Xr [(bk3,#[.bool false,.slice none 0 0],30),(bk2,#[.bool qd.b,.slice qd.a qd.n qd.c],30),(bk1,#[p.v,s.v,.bool c.b,.slice c.a c.n c.c],32)] [qd.is,Ls n (crx n P q) sn,Mt n (fun _=>n) P p,Ls n q s,c.is]:=⟨_,hZ11⟩
 clear hZ11
 have hne0_1:=box_ne hZ12 0 1 rfl rfl (by decide)
 have hne1_0:=box_ne hZ12 1 0 rfl rfl (by decide)
 have hVS4:∀ kq,kq ∈ ([veq (sn.v),veq (qd.v),veq (qd.v),veq (.pointer (some ⟨bk1,2,none⟩)),veq (c.v),vnum ((M.dt n P)*C),veq (.pointer (some ⟨bk1,1,none⟩)),veq (s.v),veq (sn.v),vnum (M.sm n (fun t=>q t*crx n P q t)),vnum (((M.dt n P)*C) - (M.sm n (fun t=>q t*crx n P q t))),veq (.int .i64 0),veq (sn.v),vany,vstN bk3 (((M.dt n P)*C) - (M.sm n (fun t=>q t*crx n P q t))) 30]:List VF)→VSt kq:=by
  intro kq hkq
  simp only [List.mem_cons,List.not_mem_nil,or_false] at hkq
  rcases hkq with rfl | rfl | rfl | rfl | rfl | rfl | rfl | rfl | rfl | rfl | rfl | rfl | rfl | rfl | rfl
  ·
   exact (zve _).st
  ·
   exact (zve _).st
  ·
   exact (zve _).st
  ·
   exact (zve _).st
  ·
   exact (zve _).st
  ·
   exact (vnum_se _).st
  ·
   exact (zve _).st
  ·
   exact (zve _).st
  ·
   exact (zve _).st
  ·
   exact (vnum_se _).st
  ·
   exact (vnum_se _).st
  ·
   exact (zve _).st
  ·
   exact (zve _).st
  ·
   exact (vany_se).st
  ·
   exact vstN_st _ _ _
 refine wp_region_s 15 [some 21,some 22,some 23,some 24,some 25,some 26,some 27,some 28,some 29,some 30,some 31,some 32,some 2,none,none] [veq (sn.v),veq (qd.v),veq (qd.v),veq (.pointer (some ⟨bk1,2,none⟩)),veq (c.v),vnum ((M.dt n P)*C),veq (.pointer (some ⟨bk1,1,none⟩)),veq (s.v),veq (sn.v),vnum (M.sm n (fun t=>q t*crx n P q t)),vnum (((M.dt n P)*C) - (M.sm n (fun t=>q t*crx n P q t))),veq (.int .i64 0),veq (sn.v),vany,vstN bk3 (((M.dt n P)*C) - (M.sm n (fun t=>q t*crx n P q t))) 30] (fun _ _ X1 l1=>XR4=X1∧∃ Cz0:Array Value,Cz0.size=2∧[(bk3,Cz0,30),(bk2,#[.bool qd.b,.slice qd.a qd.n qd.c],30),(bk1,#[p.v,s.v,.bool c.b,.slice c.a c.n c.c],32)]=l1) [qd.is,Ls n (crx n P q) sn,Mt n (fun _=>n) P p,Ls n q s,c.is] (by kernel_rfl) (by kernel_rfl) (by rfl) (by decide) (by rfl) (fun _=>⟨XR4,_,⟨rfl,_,rfl,rfl⟩,hZ12.later (Below.refl _ _).drew⟩) ?_ ?_
 ·
  intro iq hlq hiq LL uu ww aa X1 l1 hLi hLc hR hJ hd hall hev hin hold
  clear hZ12
  obtain rfl | rfl | rfl | rfl | rfl | rfl | rfl | rfl | rfl | rfl | rfl | rfl | rfl | rfl | rfl:iq=0∨iq=1∨iq=2∨iq=3∨iq=4∨iq=5∨iq=6∨iq=7∨iq=8∨iq=9∨iq=10∨iq=11∨iq=12∨iq=13∨iq=14:=by omega
  ·
   refine zos hJ (fun _=>hR) ?_
   obtain ⟨eX,Cz0,hsCz0,el⟩:=hR
   subst eX
   subst el
   have hL2:LL 12=false:=by
    cases q12:LL 12 with
    | false=>rfl
    | true =>
     have q0:=hLc 12 (by decide) q12 0 (by kernel_rfl)
     rw [hLi] at q0
     cases q0
   exact .inr ⟨rfl,fun K' hK=>wp_move (.tmp 2) rfl (zet ((hold 12 2 (by decide) hL2 rfl).trans rfl)) (hK _ _ hJ rfl zvs)⟩
  ·
   refine zos hJ (fun _=>hR) ?_
   obtain ⟨eX,Cz0,hsCz0,el⟩:=hR
   subst eX
   subst el
   exact .inr ⟨rfl,fun K' hK=>wp_load 30 (.tmp 3) rfl bk2 0 2 #[.bool qd.b,.slice qd.a qd.n qd.c] #[.bool qd.b,.slice qd.a qd.n qd.c] 30 (hJ.es.at' _ (zzG (i:=1) rfl)) (zet ((hev 3 (by decide)).trans rfl)) ag30 sz30 (zzF (by kernel_rfl)) (by kernel_rfl) (hK _ _ hJ rfl zvs)⟩
  ·
   refine zos hJ (fun _=>hR) ?_
   obtain ⟨eX,Cz0,hsCz0,el⟩:=hR
   subst eX
   subst el
   exact .inr ⟨rfl,fun K' hK=>wp_load 30 (.tmp 3) rfl bk2 0 2 #[.bool qd.b,.slice qd.a qd.n qd.c] #[.bool qd.b,.slice qd.a qd.n qd.c] 30 (hJ.es.at' _ (zzG (i:=1) rfl)) (zet ((hev 3 (by decide)).trans rfl)) ag30 sz30 (zzF (by kernel_rfl)) (by kernel_rfl) (hK _ _ hJ rfl zvs)⟩
  ·
   refine zos hJ (fun _=>hR) ?_
   obtain ⟨eX,Cz0,hsCz0,el⟩:=hR
   subst eX
   subst el
   exact .inr ⟨rfl,fun K' hK=>wp_fda (v:=.pointer (some ⟨bk1,2,none⟩)) 32 (.tmp 1) 2 rfl (zet ((hev 1 (by decide)).trans rfl)) (fun _=>by kernel_rfl) (hK _ _ hJ rfl zvs)⟩
  ·
   refine zos hJ (fun _=>hR) ?_
   obtain ⟨eX,Cz0,hsCz0,el⟩:=hR
   subst eX
   subst el
   exact .inr ⟨rfl,fun K' hK=>wp_load 30 (.tmp 24) rfl bk1 2 2 #[p.v,s.v,.bool c.b,.slice c.a c.n c.c] #[.bool c.b,.slice c.a c.n c.c] 32 (hJ.es.at' _ (zzG (i:=2) rfl)) (zj (hin 3 24 rfl) (show uu 3=.pointer (some ⟨bk1,2,none⟩) from (hd 3 (by decide) (by kernel_rfl)).2)) ag30 sz30 (zzF (by kernel_rfl)) (by kernel_rfl) (hK _ _ hJ rfl zvs)⟩
  ·
   refine zos hJ (fun _=>hR) ?_
   obtain ⟨eX,Cz0,hsCz0,el⟩:=hR
   subst eX
   subst el
   refine .inr ⟨rfl,fun K' hK=>?_⟩
   refine zcz (.func 32) #[.tmp 23,.tmp 25] #[30,30] 32 #[] #[qd.v,c.v] _ rfl rfl (map2 (zj (hin 2 23 rfl) (show uu 2=qd.v from (hd 2 (by decide) (by kernel_rfl)).2)) (zj (hin 4 25 rfl) (show uu 4=c.v from (hd 4 (by decide) (by kernel_rfl)).2))) rfl (fun _ _=>rfl) (zMul hJ.nx (hJ.get 0 (f:=qd.is) rfl) (hJ.get 4 (f:=c.is) rfl) ez_qd ez_c (dt_sz bP) bC (by omega) (by omega)) ?_
   rintro zz ww2 ⟨q1,rfl,ez_q1,hi_q1,hB⟩
   exact ⟨_,rfl,hK _ _ (hJ.later hB) ⟨q1,rfl,ez_q1,hi_q1⟩ (zvl hVS4 hB)⟩
  ·
   refine zos hJ (fun _=>hR) ?_
   obtain ⟨eX,Cz0,hsCz0,el⟩:=hR
   subst eX
   subst el
   exact .inr ⟨rfl,fun K' hK=>wp_fda (v:=.pointer (some ⟨bk1,1,none⟩)) 32 (.tmp 1) 1 rfl (zet ((hev 1 (by decide)).trans rfl)) (fun _=>by kernel_rfl) (hK _ _ hJ rfl zvs)⟩
  ·
   refine zos hJ (fun _=>hR) ?_
   obtain ⟨eX,Cz0,hsCz0,el⟩:=hR
   subst eX
   subst el
   exact .inr ⟨rfl,fun K' hK=>wp_load1 (v:=s.v) 27 (.tmp 27) rfl bk1 1 #[p.v,s.v,.bool c.b,.slice c.a c.n c.c] 32 (hJ.es.at' _ (zzG (i:=2) rfl)) (zj (hin 6 27 rfl) (show uu 6=.pointer (some ⟨bk1,1,none⟩) from (hd 6 (by decide) (by kernel_rfl)).2)) ag27 (by kernel_rfl) (hK _ _ hJ rfl zvs)⟩
  ·
   refine zos hJ (fun _=>hR) ?_
   obtain ⟨eX,Cz0,hsCz0,el⟩:=hR
   subst eX
   subst el
   have hT2:aa.tmps[2]?=some (sn.v):=by
    cases q12:LL 12 with
    | false=>exact (hold 12 2 (by decide) q12 rfl).trans rfl
    | true=>exact (hin 12 2 rfl).trans (congrArg some (show uu 12=sn.v from hall 12 (by decide) q12))
   exact .inr ⟨rfl,fun K' hK=>wp_move (.tmp 2) rfl (zet hT2) (hK _ _ hJ rfl zvs)⟩
  ·
   refine zos hJ (fun _=>hR) ?_
   obtain ⟨eX,Cz0,hsCz0,el⟩:=hR
   subst eX
   subst el
   refine .inr ⟨rfl,fun K' hK=>?_⟩
   refine zcz (.func 48) #[.tmp 28,.tmp 29] #[27,27] 48 #[] #[s.v,sn.v] _ rfl rfl (map2 (zj (hin 7 28 rfl) (show uu 7=s.v from (hd 7 (by decide) (by kernel_rfl)).2)) (zj (hin 8 29 rfl) (show uu 8=sn.v from (hd 8 (by decide) (by kernel_rfl)).2))) rfl (fun _ _=>rfl) ((show Calls _ _ #[s.v,sn.v] _ (PNX _ (M.sm n (fun t=>q t*crx n P q t)) _) from uInner hJ.nx s sn (e:=e+(dtb e n)) (hJ.get 3 (f:=Ls n q s) rfl) (hJ.get 1 (f:=Ls n (crx n P q) sn) rfl) (by omega) (fun (tq:Nat) htq=>(bq tq htq).mono (Nat.le_add_right _ _)) (fun (tq:Nat) htq=>((fun (j:Nat) (_:j < n)=>crx_sz bP bq j) tq (by omega)).mono (Nat.le_add_left _ _)) (by omega) (by omega))) ?_
   rintro zz ww2 ⟨q2,rfl,ez_q2,hi_q2,hB⟩
   exact ⟨_,rfl,hK _ _ (hJ.later hB) ⟨q2,rfl,ez_q2,hi_q2⟩ (zvl hVS4 hB)⟩
  ·
   refine zos hJ (fun _=>hR) ?_
   obtain ⟨eX,Cz0,hsCz0,el⟩:=hR
   subst eX
   subst el
   obtain ⟨q1,e5,ez_q1,hi_q1⟩:=(show (vnum ((M.dt n P)*C)) (uu 5) XR4 ww from (hd 5 (by decide) (by kernel_rfl)).2)
   obtain ⟨q2,e9,ez_q2,hi_q2⟩:=(show (vnum (M.sm n (fun t=>q t*crx n P q t))) (uu 9) XR4 ww from (hd 9 (by decide) (by kernel_rfl)).2)
   replace hJ:=hJ.more (f:=q1.is) q1.stb hi_q1
   replace hJ:=hJ.more (f:=q2.is) q2.stb hi_q2
   refine .inr ⟨rfl,fun K' hK=>?_⟩
   refine zcz (.func 37) #[.tmp 26,.tmp 30] #[30,30] 37 #[] #[q1.v,q2.v] _ rfl rfl (map2 (zj (hin 5 26 rfl) e5) (zj (hin 9 30 rfl) e9)) rfl (fun _ _=>rfl) (zSub hJ.nx (hJ.get 1 (f:=q1.is) rfl) (hJ.get 0 (f:=q2.is) rfl) ez_q1 ez_q2 (Sz.mul (dt_sz bP) bC) (sm_sz (fun (tq:Nat) htq=>Sz.mul (bq tq htq) ((fun (j:Nat) (_:j < n)=>crx_sz bP bq j) tq (by omega)))) (by omega) (by omega)) ?_
   rintro zz ww2 ⟨q3,rfl,ez_q3,hi_q3,hB⟩
   exact ⟨_,rfl,hK _ _ ((hJ.only [qd.is,Ls n (crx n P q) sn,Mt n (fun _=>n) P p,Ls n q s,c.is] (by simp)).later hB) ⟨q3,rfl,ez_q3,hi_q3⟩ (zvl hVS4 hB)⟩
  ·
   refine zos hJ (fun _=>hR) ?_
   obtain ⟨eX,Cz0,hsCz0,el⟩:=hR
   subst eX
   subst el
   exact .inr ⟨rfl,fun K' hK=>wp_move (.tmp 5) rfl (zet ((hev 5 (by decide)).trans rfl)) (hK _ _ hJ rfl zvs)⟩
  ·
   refine zos hJ (fun _=>hR) ?_
   obtain ⟨eX,Cz0,hsCz0,el⟩:=hR
   subst eX
   subst el
   exact .inr ⟨rfl,fun K' hK=>wp_asgn (.tmp 21) rfl (zj (hin 0 21 rfl) (show uu 0=sn.v from (hd 0 (by decide) (by kernel_rfl)).2)) (hK _ _ hJ rfl zvs)⟩
  ·
   obtain ⟨eX,Cz0,hsCz0,el⟩:=hR
   subst eX
   subst el
   have hXb:XR4 bk2:=hJ.own _ (zzG (i:=1) rfl)
   refine .inr ⟨rfl,fun K' hK=>wp_store 30 (.tmp 3) (.tmp 22) rfl 1 bk2 0 #[.bool qd.b,.slice qd.a qd.n qd.c] 30 2 [.bool qd.b,.slice qd.a qd.n qd.c] hJ.es rfl (zet ((hev 3 (by decide)).trans rfl)) (by rw [(zj (hin 1 22 rfl) (show uu 1=qd.v from (hd 1 (by decide) (by kernel_rfl)).2))]; rfl) sz30 rfl (zzF (by kernel_rfl)) (by kernel_rfl) (fun ww2 hE hk hz=>?_)⟩
   have hP:=(hJ.put (C':=#[.bool qd.b,.slice qd.a qd.n qd.c]) (j:=1) rfl (by
    have e:putC #[.bool qd.b,.slice qd.a qd.n qd.c] 0 [.bool qd.b,.slice qd.a qd.n qd.c]=#[.bool qd.b,.slice qd.a qd.n qd.c]:=by kernel_rfl
    rw [e] at hE
    exact hE) hk hz).only [qd.is,Ls n (crx n P q) sn,Mt n (fun _=>n) P p,Ls n q s,c.is] (by simp)
   exact hK undef ww2 _ _ ⟨rfl,Cz0,hsCz0,rfl⟩ hP trivial (vzL_p hXb hk hz (by
    intro kq hkq
    simp only [List.mem_cons,List.not_mem_nil,or_false] at hkq
    rcases hkq with rfl | rfl | rfl | rfl | rfl | rfl | rfl | rfl | rfl | rfl | rfl | rfl | rfl | rfl | rfl
    ·
     exact .inl ((zve _).sp _)
    ·
     exact .inl ((zve _).sp _)
    ·
     exact .inl ((zve _).sp _)
    ·
     exact .inl ((zve _).sp _)
    ·
     exact .inl ((zve _).sp _)
    ·
     exact .inl ((vnum_se _).sp _)
    ·
     exact .inl ((zve _).sp _)
    ·
     exact .inl ((zve _).sp _)
    ·
     exact .inl ((zve _).sp _)
    ·
     exact .inl ((vnum_se _).sp _)
    ·
     exact .inl ((vnum_se _).sp _)
    ·
     exact .inl ((zve _).sp _)
    ·
     exact .inl ((zve _).sp _)
    ·
     exact .inl ((vany_se).sp _)
    ·
     exact .inl (vstN_sp hne0_1 _ _)))
  ·
   obtain ⟨eX,Cz0,hsCz0,el⟩:=hR
   subst eX
   subst el
   obtain ⟨q3,e10,ez_q3,hi_q3⟩:=(show (vnum (((M.dt n P)*C) - (M.sm n (fun t=>q t*crx n P q t)))) (uu 10) XR4 ww from (hd 10 (by decide) (by kernel_rfl)).2)
   replace hJ:=hJ.more (f:=q3.is) q3.stb hi_q3
   have hXb:XR4 bk3:=hJ.own _ (zzG (i:=0) rfl)
   refine .inr ⟨rfl,fun K' hK=>wp_store 30 (.tmp 4) (.tmp 31) rfl 0 bk3 0 Cz0 30 2 [.bool q3.b,.slice q3.a q3.n q3.c] hJ.es rfl (zet ((hev 4 (by decide)).trans rfl)) (by rw [(zj (hin 10 31 rfl) e10)]; rfl) sz30 rfl (by omega) (by kernel_rfl) (fun ww2 hE hk hz=>?_)⟩
   have hP:=(hJ.put (j:=0) rfl hE hk hz).only [qd.is,Ls n (crx n P q) sn,Mt n (fun _=>n) P p,Ls n q s,c.is] (by simp)
   exact hK undef ww2 _ _ ⟨rfl,putC Cz0 0 _,by rw [putC_size]; exact hsCz0,rfl⟩ hP ⟨q3,ez_q3,(q3.stb _ _ _ _ (ext_put hXb hk hz) hi_q3),(put_cl (j:=0) hE rfl (by rw [hsCz0]; rfl))⟩ (vzL_p hXb hk hz (by
    intro kq hkq
    simp only [List.mem_cons,List.not_mem_nil,or_false] at hkq
    rcases hkq with rfl | rfl | rfl | rfl | rfl | rfl | rfl | rfl | rfl | rfl | rfl | rfl | rfl | rfl | rfl
    ·
     exact .inl ((zve _).sp _)
    ·
     exact .inl ((zve _).sp _)
    ·
     exact .inl ((zve _).sp _)
    ·
     exact .inl ((zve _).sp _)
    ·
     exact .inl ((zve _).sp _)
    ·
     exact .inl ((vnum_se _).sp _)
    ·
     exact .inl ((zve _).sp _)
    ·
     exact .inl ((zve _).sp _)
    ·
     exact .inl ((zve _).sp _)
    ·
     exact .inl ((vnum_se _).sp _)
    ·
     exact .inl ((vnum_se _).sp _)
    ·
     exact .inl ((zve _).sp _)
    ·
     exact .inl ((zve _).sp _)
    ·
     exact .inl ((vany_se).sp _)
    ·
     exact .inr (fun _=>⟨q3,ez_q3,(q3.stb _ _ _ _ (ext_put hXb hk hz) hi_q3),(put_cl (j:=0) hE rfl (by rw [hsCz0]; rfl))⟩)))
 clear hZ12
 intro LL uu W7 X1 l1 hLL hR hZ13 hd
 obtain ⟨eX,Cz0,hsCz0,el⟩:=hR
 subst eX
 subst el
 have e_0:uu 0=sn.v:=hd 0 (by decide)
 have e_1:uu 1=qd.v:=hd 1 (by decide)
 have e_2:uu 2=qd.v:=hd 2 (by decide)
 have e_3:uu 3=.pointer (some ⟨bk1,2,none⟩):=hd 3 (by decide)
 have e_4:uu 4=c.v:=hd 4 (by decide)
 obtain ⟨q1,e_5,ez_q1,hi_q1⟩:=(show (vnum ((M.dt n P)*C)) (uu 5) XR4 W7 from hd 5 (by decide))
 have e_6:uu 6=.pointer (some ⟨bk1,1,none⟩):=hd 6 (by decide)
 have e_7:uu 7=s.v:=hd 7 (by decide)
 have e_8:uu 8=sn.v:=hd 8 (by decide)
 obtain ⟨q2,e_9,ez_q2,hi_q2⟩:=(show (vnum (M.sm n (fun t=>q t*crx n P q t))) (uu 9) XR4 W7 from hd 9 (by decide))
 obtain ⟨q3,e_10,ez_q3,hi_q3⟩:=(show (vnum (((M.dt n P)*C) - (M.sm n (fun t=>q t*crx n P q t)))) (uu 10) XR4 W7 from hd 10 (by decide))
 have e_11:uu 11=.int .i64 0:=hd 11 (by decide)
 have e_12:uu 12=sn.v:=hd 12 (by decide)
 obtain ⟨q3_14,ez_q3_14,hi_q3_14,hcl14⟩:=(show (vstN bk3 (((M.dt n P)*C) - (M.sm n (fun t=>q t*crx n P q t))) 30) (uu 14) XR4 W7 from hd 14 (by decide))
 obtain rfl:=cl_eq (hZ13.es.at' _ (zzG (i:=0) rfl)) hcl14
 clear hcl14 hsCz0 hd hVS4
 simp only [layS,Act.put,zzC,zzD,zzE,Nat.zero_add,Nat.reduceAdd,List.drop_succ_cons,List.drop_zero,List.drop_nil,e_0,e_1,e_2,e_3,e_4,e_5,e_6,e_7,e_8,e_9,e_10,e_11,e_12]
 clear e_0 e_1 e_2 e_3 e_4 e_5 e_6 e_7 e_8 e_9 e_10 e_11 e_12
 have hZ14:=hZ13.more (f:=q1.is) q1.stb hi_q1
 clear hZ13 hi_q1
 have hZ15:=hZ14.more (f:=q2.is) q2.stb hi_q2
 clear hZ14 hi_q2
 have hZ16:=hZ15.more (f:=q3.is) q3.stb hi_q3
 clear hZ15 hi_q3
 have hZ17:=hZ16.more (f:=q3_14.is) q3_14.stb hi_q3_14
 clear hZ16 hi_q3_14
 go_wp2
 refine bodyPost_ret (v:=.tuple #[sn.v,.agg #[.bool qd.b,.slice qd.a qd.n qd.c],.agg #[.bool q3_14.b,.slice q3_14.a q3_14.n q3_14.c],.int .i64 0]) (results_tcct Tryz.results30 (hZ17.es.loadBox 1 rfl ag30 sz30 (zzF (by kernel_rfl)) (by kernel_rfl)) (hZ17.es.loadBox 0 rfl ag30 sz30 (zzF (by kernel_rfl)) (by kernel_rfl)) rfl rfl rfl rfl) rfl ?_
 exact ⟨sn,qd,q3_14,rfl,(hZ17.out 5 (f:=Ls n (crx n P q) sn) rfl),ez_qd,(hZ17.out 4 (f:=qd.is) rfl),ez_q3_14,(hZ17.out 0 (f:=q3_14.is) rfl),hZ17.below⟩
set_option maxRecDepth 100000 in
set_option maxHeartbeats 12800000 in
theorem dDot {X0:Nat→Prop} {w:World} (hX:NX X0 w) (xs ys:Sl) {n e:Nat} {x y:Nat→Int} (hx:Lr n x xs X0 w) (hy:Lr n y ys X0 w) (bx:∀ k,k < n→Sz e (x k)) (by_:∀ k,k < n→Sz e (y k)) (hn:n≤1000) (he:e≤400000):Calls Tryz.prog 54 #[xs.v,ys.v] w (PNXr X0 (M.sm n (fun t=>x t*y t)) w):=by
 have hZ0:=zs_start hX
 have hZ1:=hZ0.more (f:=Lr n y ys) (Lr.stb _ _ _) hy
 clear hZ0
 have hZ2:=hZ1.more (f:=Lr n x xs) (Lr.stb _ _ _) hx
 clear hZ1
 go_enter Tryz.func54,Tryz.ntmps54
 go_wp2_with (refine zsa 43 #[.bool false,.slice none 0 0] (.agg #[.bool false,.slice none 0 0]) rfl rfl zv43 rfl hZ2 (fun bk1 X3 W1 hZ3=>?_))
 clear hZ2
 simp only [Stop,Act.put,zzC,zzD,zzE]
 go_wp2_with fail
 refine (zOfr hZ3.nx (by omega) (by omega)).mono ?_
 rintro zz W2 ⟨q1,rfl,ez_q1,hi_q1,hB⟩
 have hZ4:=hZ3.later hB
 clear hB hZ3
 have hZ5:=hZ4.more (f:=q1.ir) q1.stbr hi_q1
 clear hZ4 hi_q1
 go_wp2_with (refine zsa 43 #[.bool false,.slice none 0 0] (.agg #[.bool false,.slice none 0 0]) rfl rfl zv43 rfl hZ5 (fun bk2 X6 W3 hZ6=>?_))
 clear hZ5
 simp only [Stop,Act.put,zzC,zzD,zzE]
 go_wp2_with (refine zss 43 (.tmp 5) (.tmp 7) 0 bk2 0 #[.bool false,.slice none 0 0] 43 2 [.bool q1.b,.slice q1.a q1.n q1.c] #[.bool q1.b,.slice q1.a q1.n q1.c] [(bk2,#[.bool q1.b,.slice q1.a q1.n q1.c],43),(bk1,#[.bool false,.slice none 0 0],43)] rfl rfl rfl rfl sz43 hZ6 rfl rfl (zzF (by kernel_rfl)) (by kernel_rfl) (by kernel_rfl) (by kernel_rfl) (fun W4 hZ7=>?_))
 clear hZ6
 simp only [Stop,Act.put,zzC,zzD,zzE]
 have hZ8:=hZ7.only [q1.ir,Lr n x xs,Lr n y ys] (by simp)
 clear hZ7
 go_wp2
 go_loopw [6] (fun kv wr=>∃ (kk:Nat) (p:NL) (X:Nat→Prop),kk≤n∧kv=.int .i64 ((kk:Nat):Int)∧p.z=M.sm kk (fun t=>x t*y t)∧Zs w wr X0 X [(bk2,#[.bool p.b,.slice p.a p.n p.c],43),(bk1,#[.bool false,.slice none 0 0],43)] [p.ir,Lr n x xs,Lr n y ys]) (fun iv _=>n - (intOf iv).toNat)
 case atStart=>exact ⟨0,q1,_,by omega,rfl,ez_q1,hZ8⟩
 case round =>
  clear hZ8
  obtain ⟨kk,p,X,hk,rfl,ez_p,hZ⟩:=hrel
  by_cases hlt:kk < n
  ·
   go_wp2_with (refine zso rfl (fun K hK=>wp_lenq (.tmp 9) 40 43 xs rfl (by kernel_rfl) rfl (hZ.get 1 (f:=Lr n x xs) rfl).n (hK _ _ ?_)))
   simp only [Stop,Act.put,zzC,zzD,zzE]
   go_wp2_with (refine zso rfl (fun K hK=>wp_lssi (.tmp 8) (.tmp 10) rfl rfl rfl (r:=true) (decide_eq_true (by omega)) (hK _ _ ?_)))
   simp only [Stop,Act.put,zzC,zzD,zzE]
   go_wp2
   have hM:Zs w wr.drew X0 X [(bk2,#[.bool p.b,.slice p.a p.n p.c],43),(bk1,#[.bool false,.slice none 0 0],43)] [p.ir,Lr n x xs,Lr n y ys]∧Below wr.heap.size wr wr.drew:=⟨hZ.later (Below.refl _ _).drew,(Below.refl _ _).drew⟩
   clear hZ
   have hVS5:∀ k,k ∈ ([veq (p.v),veq (xs.v),veq (.int .i64 (((kk:Nat):Int))),veq ((xs.at 2 kk)),vnumr (x kk),veq (ys.v),veq (.int .i64 (((kk:Nat):Int))),veq ((ys.at 2 kk)),vnumr (y kk),vnumr ((x kk)*(y kk)),vnumr ((M.sm kk (fun t=>x t*y t))+((x kk)*(y kk)))]:List VF)→VSt k:=by
    intro k hk
    simp only [List.mem_cons,List.not_mem_nil,or_false] at hk
    rcases hk with rfl | rfl | rfl | rfl | rfl | rfl | rfl | rfl | rfl | rfl | rfl
    ·
     exact veq_st _
    ·
     exact veq_st _
    ·
     exact veq_st _
    ·
     exact veq_st _
    ·
     exact vnum_str _
    ·
     exact veq_st _
    ·
     exact veq_st _
    ·
     exact veq_st _
    ·
     exact vnum_str _
    ·
     exact vnum_str _
    ·
     exact vnum_str _
   refine wp_region_q 11 [some 14,some 15,some 16,some 17,some 18,some 19,some 20,some 21,some 22,some 23,some 24] (vzL [veq (p.v),veq (xs.v),veq (.int .i64 (((kk:Nat):Int))),veq ((xs.at 2 kk)),vnumr (x kk),veq (ys.v),veq (.int .i64 (((kk:Nat):Int))),veq ((ys.at 2 kk)),vnumr (y kk),vnumr ((x kk)*(y kk)),vnumr ((M.sm kk (fun t=>x t*y t))+((x kk)*(y kk)))] X) (fun W=>Zs w W X0 X [(bk2,#[.bool p.b,.slice p.a p.n p.c],43),(bk1,#[.bool false,.slice none 0 0],43)] [p.ir,Lr n x xs,Lr n y ys]∧Below wr.heap.size wr W) (by kernel_rfl) (by kernel_rfl) (by rfl) (by decide) (by rfl) hM ?_ ?_
   ·
    intro i hl hi LL uu ww aa hLi hLc hJ hd hev hin hold
    clear hM
    obtain ⟨hJ,hJb⟩:=hJ
    obtain rfl | rfl | rfl | rfl | rfl | rfl | rfl | rfl | rfl | rfl | rfl:i=0∨i=1∨i=2∨i=3∨i=4∨i=5∨i=6∨i=7∨i=8∨i=9∨i=10:=by omega
    ·
     exact .inr ⟨rfl,fun K' hK=>wp_load 43 (.tmp 5) rfl bk2 0 2 #[.bool p.b,.slice p.a p.n p.c] #[.bool p.b,.slice p.a p.n p.c] 43 (hJ.es.at' _ (zzG (i:=0) rfl)) (zet ((hev 5 (by decide)).trans rfl)) ag43 sz43 (zzF (by kernel_rfl)) (by kernel_rfl) (hK _ _ ⟨hJ,hJb⟩ rfl zvs)⟩
    ·
     exact .inr ⟨rfl,fun K' hK=>wp_move (.tmp 0) rfl (zet ((hev 0 (by decide)).trans rfl)) (hK _ _ ⟨hJ,hJb⟩ rfl zvs)⟩
    ·
     exact .inr ⟨rfl,fun K' hK=>wp_move (.tmp 6) rfl (zet ((hev 6 (by decide)).trans rfl)) (hK _ _ ⟨hJ,hJb⟩ rfl zvs)⟩
    ·
     exact .inr ⟨rfl,fun K' hK=>wp_ixs 40 (.tmp 15) (.tmp 16) xs kk 2 43 rfl (zet ((hin 1 15 rfl).trans (congrArg some (show uu 1=xs.v from hd 1 (by decide) (by kernel_rfl))))) (zet ((hin 2 16 rfl).trans (congrArg some (show uu 2=.int .i64 (((kk:Nat):Int)) from hd 2 (by decide) (by kernel_rfl))))) (by kernel_rfl) sz43 (fun h=>((hJ.get 1 (f:=Lr n x xs) rfl).sq.nil h).1) ((hJ.get 1 (f:=Lr n x xs) rfl).n ▸ (by omega)) (hK _ _ ⟨hJ,hJb⟩ rfl zvs)⟩
    ·
     exact .inr ⟨rfl,fun K' hK=>wp_ldnr 43 (.tmp 17) xs kk n x rfl (zet ((hin 3 17 rfl).trans (congrArg some (show uu 3=(xs.at 2 kk) from hd 3 (by decide) (by kernel_rfl))))) (hJ.get 1 (f:=Lr n x xs) rfl) (by omega) ag43 sz43 (fun q2 ez_q2 hi_q2=>hK _ _ ⟨hJ,hJb⟩ ⟨q2,rfl,ez_q2,hi_q2⟩ zvs)⟩
    ·
     exact .inr ⟨rfl,fun K' hK=>wp_move (.tmp 1) rfl (zet ((hev 1 (by decide)).trans rfl)) (hK _ _ ⟨hJ,hJb⟩ rfl zvs)⟩
    ·
     exact .inr ⟨rfl,fun K' hK=>wp_move (.tmp 6) rfl (zet ((hev 6 (by decide)).trans rfl)) (hK _ _ ⟨hJ,hJb⟩ rfl zvs)⟩
    ·
     exact .inr ⟨rfl,fun K' hK=>wp_ixs 40 (.tmp 19) (.tmp 20) ys kk 2 43 rfl (zet ((hin 5 19 rfl).trans (congrArg some (show uu 5=ys.v from hd 5 (by decide) (by kernel_rfl))))) (zet ((hin 6 20 rfl).trans (congrArg some (show uu 6=.int .i64 (((kk:Nat):Int)) from hd 6 (by decide) (by kernel_rfl))))) (by kernel_rfl) sz43 (fun h=>((hJ.get 2 (f:=Lr n y ys) rfl).sq.nil h).1) ((hJ.get 2 (f:=Lr n y ys) rfl).n ▸ (by omega)) (hK _ _ ⟨hJ,hJb⟩ rfl zvs)⟩
    ·
     exact .inr ⟨rfl,fun K' hK=>wp_ldnr 43 (.tmp 21) ys kk n y rfl (zet ((hin 7 21 rfl).trans (congrArg some (show uu 7=(ys.at 2 kk) from hd 7 (by decide) (by kernel_rfl))))) (hJ.get 2 (f:=Lr n y ys) rfl) (by omega) ag43 sz43 (fun q3 ez_q3 hi_q3=>hK _ _ ⟨hJ,hJb⟩ ⟨q3,rfl,ez_q3,hi_q3⟩ zvs)⟩
    ·
     obtain ⟨q2,e4,ez_q2,hi_q2⟩:=(show (vnumr (x kk)) (uu 4) X ww from hd 4 (by decide) (by kernel_rfl))
     obtain ⟨q3,e8,ez_q3,hi_q3⟩:=(show (vnumr (y kk)) (uu 8) X ww from hd 8 (by decide) (by kernel_rfl))
     replace hJ:=hJ.more (f:=q2.ir) q2.stbr hi_q2
     replace hJ:=hJ.more (f:=q3.ir) q3.stbr hi_q3
     refine .inr ⟨rfl,fun K' hK=>?_⟩
     refine zcz (.func 71) #[.tmp 18,.tmp 22] #[43,43] 71 #[] #[q2.v,q3.v] _ rfl rfl (map2 (zet ((hin 4 18 rfl).trans (congrArg some e4))) (zet ((hin 8 22 rfl).trans (congrArg some e8)))) rfl (fun _ _=>rfl) (zMulr hJ.nx (hJ.get 1 (f:=q2.ir) rfl) (hJ.get 0 (f:=q3.ir) rfl) ez_q2 ez_q3 (bx kk (by omega)) (by_ kk (by omega)) (by omega) (by omega)) ?_
     rintro zz ww2 ⟨q4,rfl,ez_q4,hi_q4,hB⟩
     exact ⟨_,rfl,hK _ _ ⟨(hJ.only [p.ir,Lr n x xs,Lr n y ys] (by simp)).later hB,hJb.trans (hB.mono hJb.size)⟩ ⟨q4,rfl,ez_q4,hi_q4⟩ (zvl hVS5 hB)⟩
    ·
     obtain ⟨q4,e9,ez_q4,hi_q4⟩:=(show (vnumr ((x kk)*(y kk))) (uu 9) X ww from hd 9 (by decide) (by kernel_rfl))
     replace hJ:=hJ.more (f:=q4.ir) q4.stbr hi_q4
     refine .inr ⟨rfl,fun K' hK=>?_⟩
     refine zcz (.func 55) #[.tmp 14,.tmp 23] #[43,43] 55 #[] #[p.v,q4.v] _ rfl rfl (map2 (zet ((hin 0 14 rfl).trans (congrArg some (show uu 0=p.v from hd 0 (by decide) (by kernel_rfl))))) (zet ((hin 9 23 rfl).trans (congrArg some e9)))) rfl (fun _ _=>rfl) (zAddr hJ.nx (hJ.get 1 (f:=p.ir) rfl) (hJ.get 0 (f:=q4.ir) rfl) ez_p ez_q4 (sm_sz (fun t ht=>Sz.mul (bx t (by omega)) (by_ t (by omega)))) (Sz.mul (bx kk (by omega)) (by_ kk (by omega))) (by omega) (by omega)) ?_
     rintro zz ww2 ⟨q5,rfl,ez_q5,hi_q5,hB⟩
     exact ⟨_,rfl,hK _ _ ⟨(hJ.only [p.ir,Lr n x xs,Lr n y ys] (by simp)).later hB,hJb.trans (hB.mono hJb.size)⟩ ⟨q5,rfl,ez_q5,hi_q5⟩ (zvl hVS5 hB)⟩
   clear hM
   intro uu W5 hZ9p hd
   obtain ⟨hZ9,hb5⟩:=hZ9p
   have e_0:uu 0=p.v:=hd 0 (by decide)
   have e_1:uu 1=xs.v:=hd 1 (by decide)
   have e_2:uu 2=.int .i64 (((kk:Nat):Int)):=hd 2 (by decide)
   have e_3:uu 3=(xs.at 2 kk):=hd 3 (by decide)
   obtain ⟨q2,e_4,ez_q2,hi_q2⟩:=(show (vnumr (x kk)) (uu 4) X W5 from hd 4 (by decide))
   have e_5:uu 5=ys.v:=hd 5 (by decide)
   have e_6:uu 6=.int .i64 (((kk:Nat):Int)):=hd 6 (by decide)
   have e_7:uu 7=(ys.at 2 kk):=hd 7 (by decide)
   obtain ⟨q3,e_8,ez_q3,hi_q3⟩:=(show (vnumr (y kk)) (uu 8) X W5 from hd 8 (by decide))
   obtain ⟨q4,e_9,ez_q4,hi_q4⟩:=(show (vnumr ((x kk)*(y kk))) (uu 9) X W5 from hd 9 (by decide))
   obtain ⟨q5,e_10,ez_q5,hi_q5⟩:=(show (vnumr ((M.sm kk (fun t=>x t*y t))+((x kk)*(y kk)))) (uu 10) X W5 from hd 10 (by decide))
   clear hd hVS5
   simp only [layS,Act.put,zzC,zzD,zzE,Nat.zero_add,Nat.reduceAdd,List.drop_succ_cons,List.drop_zero,List.drop_nil,e_0,e_1,e_2,e_3,e_4,e_5,e_6,e_7,e_8,e_9,e_10]
   clear e_0 e_1 e_2 e_3 e_4 e_5 e_6 e_7 e_8 e_9 e_10
   have hZ10:=hZ9.more (f:=q2.ir) q2.stbr hi_q2
   clear hZ9 hi_q2
   have hZ11:=hZ10.more (f:=q3.ir) q3.stbr hi_q3
   clear hZ10 hi_q3
   have hZ12:=hZ11.more (f:=q4.ir) q4.stbr hi_q4
   clear hZ11 hi_q4
   have hZ13:=hZ12.more (f:=q5.ir) q5.stbr hi_q5
   clear hZ12 hi_q5
   go_wp2_with (refine zss 43 (.tmp 5) (.tmp 24) 0 bk2 0 #[.bool p.b,.slice p.a p.n p.c] 43 2 [.bool q5.b,.slice q5.a q5.n q5.c] #[.bool q5.b,.slice q5.a q5.n q5.c] [(bk2,#[.bool q5.b,.slice q5.a q5.n q5.c],43),(bk1,#[.bool false,.slice none 0 0],43)] rfl rfl rfl rfl sz43 hZ13 rfl rfl (zzF (by kernel_rfl)) (by kernel_rfl) (by kernel_rfl) (by kernel_rfl) (fun W6 hZ14=>?_))
   clear hZ13
   simp only [Stop,Act.put,zzC,zzD,zzE]
   have hZ15:=hZ14.only [q5.ir,Lr n x xs,Lr n y ys] (by simp)
   clear hZ14
   go_wp2_with (refine zso rfl (fun K hK=>wp_addi (.tmp 12) (.const (.int .i64 1)) rfl rfl rfl (C:=((kk+1:Nat):Int)) (by omega) (by omega) (by omega) (hK _ _ ?_)))
   simp only [Stop,Act.put,zzC,zzD,zzE]
   go_wp2
   go_roundw
   case rel=>exact ⟨kk+1,q5,_,by omega,by go_num,ez_q5,hZ15⟩
   case measure=>simp [intOf]; omega
  ·
   obtain rfl:n=kk:=by omega
   go_wp2_with (refine zso rfl (fun K hK=>wp_lenq (.tmp 9) 40 43 xs rfl (by kernel_rfl) rfl (hZ.get 1 (f:=Lr n x xs) rfl).n (hK _ _ ?_)))
   simp only [Stop,Act.put,zzC,zzD,zzE]
   go_wp2_with (refine zso rfl (fun K hK=>wp_lssi (.tmp 8) (.tmp 10) rfl rfl rfl (r:=false) (decide_eq_false (Int.lt_irrefl _)) (hK _ _ ?_)))
   simp only [Stop,Act.put,zzC,zzD,zzE]
   go_wp2_with (refine zso rfl (fun K hK=>wp_load 43 (.tmp 5) rfl bk2 0 2 #[.bool p.b,.slice p.a p.n p.c] #[.bool p.b,.slice p.a p.n p.c] 43 (hZ.es.at' _ (zzG (i:=0) rfl)) rfl ag43 sz43 (zzF (by kernel_rfl)) (by kernel_rfl) (hK _ _ ?_)))
   simp only [Stop,Act.put,zzC,zzD,zzE]
   go_wp2_with (refine zss 43 (.tmp 4) (.tmp 25) 1 bk1 0 #[.bool false,.slice none 0 0] 43 2 [.bool p.b,.slice p.a p.n p.c] #[.bool p.b,.slice p.a p.n p.c] [(bk2,#[.bool p.b,.slice p.a p.n p.c],43),(bk1,#[.bool p.b,.slice p.a p.n p.c],43)] rfl rfl rfl rfl sz43 hZ rfl rfl (zzF (by kernel_rfl)) (by kernel_rfl) (by kernel_rfl) (by kernel_rfl) (fun W7 hZ16=>?_))
   clear hZ
   simp only [Stop,Act.put,zzC,zzD,zzE]
   go_wp2
   exact bodyPost_ret (v:=p.v) (results_cell 1 Tryz.results54 hZ16.es rfl ag43 sz43 (zzF (by kernel_rfl)) rfl (by kernel_rfl)) rfl ⟨p,rfl,ez_p,hZ16.out 0 (f:=p.ir) rfl,hZ16.below⟩
section
variable {P:Program} {ops:Array Oper} {md:Region.Mode}
/-- As tailsB; but the tail may wait for the head through others. -/
def tailsB4 (md:Region.Mode) (ops:Array Oper) (n:Nat):Bool :=
 decide (n≤ops.size) &&
 ((List.range n).all fun i=>match ops[i]? with
  | some o=>o.after.all fun e=>!Region.binds md e || decide (e.on < i)
  | none=>false) &&
 ((List.range ops.size).all fun j=>decide (j < n) || (List.range n).all fun i=>waitsB md ops 9 j i) &&
 Region.seqB md ops (ops.size - n) n (Array.replicate n true++Array.replicate (ops.size - n) false)
theorem wpAny_inv4 {Q:Exit→Act→World→Prop} {n:Nat} {I:(Nat→Bool)→Act→World→Prop} {l:List Oper} (hl:l.toArray=ops) (hB:tailsB4 md ops n=true)
  (step:∀ L a w i,i < n→I L a w→L i=false→(∀ j,Region.waitsFor md ops i j=true→L j=true)→wpOp P ops Q i (I (upd L i)) a w)
  (fin:∀ a w,(∃ L,(∀ j,j < n→L j=true)∧I L a w)→wpList P ops Q (l.drop n) a w) :
  ∀ (f:Nat) (listed:Array Bool) (a:Act) (w:World),listed.size=ops.size→(∀ t,n≤t→listed.getD t false=false)→unl listed n=f→(∀ k j,listed.getD k false=true→Region.waitsFor md ops k j=true→listed.getD j false=true)→I (fun j=>listed.getD j false) a w →
   wpAny P md ops Q (f+(ops.size - n)) listed a w:=by
 unfold tailsB4 at hB
 simp only [Bool.and_eq_true,decide_eq_true_eq] at hB
 obtain ⟨⟨⟨hn,hhead⟩,htail⟩,hseq⟩:=hB
 have hdl:(l.drop n).length=ops.size - n:=by rw [← hl]; simp
 intro f
 induction f with
 | zero =>
  intro listed a w hs ht hu hcl hI
  have hz:=unl_zero hu
  have e:listed=Array.replicate n true++Array.replicate (ops.size - n) false:=by
   apply Array.ext
   ·
    simp; omega
   ·
    intro i h1 h2
    have hg:listed[i]=listed.getD i false:=by simp [h1]
    rw [hg]
    by_cases hi:i < n
    ·
     rw [hz i hi,Array.getElem_append_left (by simpa using hi)]; simp
    ·
     rw [ht i (by omega),Array.getElem_append_right (by simpa using hi)]; simp
  rw [Nat.zero_add]
  have:=wpAny_of_seq (P:=P) (md:=md) (ops:=ops) (Q':=Q) (l.drop n) n listed a w (fun j=>by rw [← hl]; simp [List.getElem?_drop]) (by rw [hdl,e]; exact hseq) (fin a w ⟨_,hz,hI⟩)
  rwa [hdl] at this
 | succ f ih =>
  intro listed a w hs ht hu hcl hI
  obtain ⟨i0,hi0,hi0u,hi0l⟩:=unl_pos (listed:=listed) (n:=n) (by omega)
  have hne:Region.ready md ops listed ≠ []:=by
   intro h0
   have hm:i0 ∈ Region.ready md ops listed:=by
    have h1:=List.all_eq_true.1 hhead i0 (List.mem_range.2 hi0)
    have hlt:i0 < ops.size:=by omega
    rw [Array.getElem?_eq_getElem hlt] at h1
    refine mem_ready.2 ⟨getD_in (by omega) hi0u,ops[i0],Array.getElem?_eq_getElem hlt,fun e he hb=>?_⟩
    have h2:=Array.all_eq_true'.1 h1 e he
    simp only [hb,Bool.not_true,Bool.false_or,decide_eq_true_eq] at h2
    exact hi0l _ h2
   rw [h0] at hm; cases hm
  rw [show f+1+(ops.size - n)=(f+(ops.size - n))+1 by omega]
  refine ⟨fun h0=>absurd h0 hne,fun i hi=>?_⟩
  obtain ⟨hiu,oi,hoi,hall⟩:=mem_ready.1 hi
  have hilt:i < ops.size:=(Array.getElem?_eq_some_iff.1 hoi).1
  have hiu':=getD_both hiu
  have hin:i < n:=by
   rcases Nat.lt_or_ge i n with h | h
   ·
    exact h
   ·
    exfalso
    have h1:=List.all_eq_true.1 htail i (List.mem_range.2 hilt)
    simp only [Bool.or_eq_true,decide_eq_true_eq] at h1
    rcases h1 with h1 | h1
    ·
     omega
    ·
     have h2:=List.all_eq_true.1 h1 i0 (List.mem_range.2 hi0)
     have h3:=waitsB_done (L:=fun j=>listed.getD j false) hcl 9 i i0 (fun k hk=>by
      obtain ⟨o',ho',e,he,hb,hon⟩:=Region.waitsFor_spec hk
      have:o'=oi:=Option.some.inj (ho'.symm.trans hoi)
      subst this
      show listed.getD k false=true
      rw [← hon]; exact hall e he hb) h2
     change listed.getD i0 false=true at h3
     rw [hi0u] at h3; cases h3
  have hst:=step _ a w i hin hI hiu' (fun j hj=>by
   obtain ⟨o',ho',e,he,hb,hon⟩:=Region.waitsFor_spec hj
   have:o'=oi:=Option.some.inj (ho'.symm.trans hoi)
   subst this
   rw [← hon]; exact hall e he hb)
  refine wpOp_mono (fun a' w' h'=>?_) hst
  refine ih (listed.setIfInBounds i true) a' w' (by simp [hs]) (fun t h=>by rw [getD_set_ne false (by omega)]; exact ht t h) ?_ ?_ ?_
  ·
   have:=unl_set hin (by omega) hiu'; omega
  ·
   intro k j hk hw
   have hkl:listed.getD k false=true∨k=i:=by
    by_cases e:k=i
    ·
     exact .inr e
    ·
     rw [getD_set_ne false (fun x=>e x.symm)] at hk; exact .inl hk
   have hj:listed.getD j false=true:=by
    rcases hkl with h | rfl
    ·
     exact hcl k j h hw
    ·
     obtain ⟨o',ho',e,he,hb,hon⟩:=Region.waitsFor_spec hw
     have:o'=oi:=Option.some.inj (ho'.symm.trans hoi)
     subst this
     rw [← hon]; exact hall e he hb
   by_cases e:j=i
   ·
    subst e; simp [show j < listed.size by omega]
   ·
    rw [getD_set_ne false (fun x=>e x.symm)]; exact hj
  ·
   rw [getD_upd (by omega)]; exact h'
theorem wp_region_inv4 {Q:Exit→Act→World→Prop} {id:Nat} {a:Act} {w:World} {l:List Oper} (n:Nat) (I:(Nat→Bool)→Act→World→Prop) (hm:P.follows .mixedOrders=true) (hB:tailsB4 .any l.toArray n=true)
  (h0:I (fun _=>false) a w.drew)
  (step:∀ L a w i,i < n→I L a w→L i=false→(∀ j,Region.waitsFor .any l.toArray i j=true→L j=true)→wpOp P l.toArray Q i (I (upd L i)) a w)
  (fin:∀ a w,(∃ L,(∀ j,j < n→L j=true)∧I L a w)→wpList P l.toArray Q (l.drop n) a w):(Code.region id l.toArray true).wp P Q a w:=by
 refine wp_region_any hm ?_
 have hB':=hB
 unfold tailsB4 at hB'
 simp only [Bool.and_eq_true,decide_eq_true_eq] at hB'
 have hn:=hB'.1.1.1
 have hu:unl (Array.replicate l.toArray.size false) n=n:=by
  unfold unl
  rw [List.filter_eq_self.2 (fun i _=>by rw [getD_replicate_false]; rfl),List.length_range]
 have:=wpAny_inv4 (P:=P) (md:=.any) (Q:=Q) (n:=n) (I:=I) (l:=l) rfl hB step fin n (Array.replicate l.toArray.size false) a w.drew (by simp) (fun t _=>getD_replicate_false _ _) hu (fun k j hk=>by rw [getD_replicate_false] at hk; cases hk) (by
  rw [show (fun j=>(Array.replicate l.toArray.size false).getD j false)=fun _=>false from funext fun j=>getD_replicate_false _ _]; exact h0)
 rwa [show n+(l.toArray.size - n)=l.toArray.size by omega] at this
end
section
variable {P:Program}
theorem wp_region_s4 {Q:Exit→Act→World→Prop} {id:Nat} {a:Act} {w W0:World} {X0:Nat→Prop} {l:List Oper} (n:Nat) (ds:List (Option Tmp)) (ks:List VF) (Rel:(Nat→Bool)→(Nat→Value)→(Nat→Prop)→BX→Prop) (fs:List Fa) (hm:P.follows .mixedOrders=true) (hB:tailsB4 .any l.toArray n=true) (hds:ds=(l.take n).map (·.dst)) (hs:slotsB ds=true)
  (hz:ds.all (fun d=>match d with | some t=>decide (t < a.tmps.size) | none=>true)=true)
  (h0:∀ u,∃ X1 l1,Rel (fun _=>false) u X1 l1∧Zs w W0.drew X0 X1 l1 fs)
  (step:∀ i (hi:i < l.length),i < n→∀ (L:Nat→Bool) (u:Nat→Value) (W:World) (A:Act) (X1:Nat→Prop) (l1:BX),L i=false→(∀ k,k < n→L k=true→∀ j,Region.waitsFor .any l.toArray k j=true→L j=true)→Rel L u X1 l1→Zs w W X0 X1 l1 fs→(∀ j,j < n→Region.waitsFor .any l.toArray i j=true→L j=true∧vzL ks X1 j (u j) W)→(∀ j,j < n→L j=true→vzL ks X1 j (u j) W) →
   (∀ t,some t ∉ ds→A.tmps[t]?=a.tmps[t]?)→(∀ j d,ds[j]?=some (some d)→A.tmps[d]?=some (u j))→(∀ j d,j < n→L j=false→ds[j]?=some (some d)→A.tmps[d]?=some (a.tmps.getD d undef))→OpT P Q l[i] l.toArray A ks Rel w X0 fs n i L u W X1)
  (fin:∀ (L:Nat→Bool) (u:Nat→Value) (W:World) (X1:Nat→Prop) (l1:BX),(∀ j,j < n→L j=true)→Rel L u X1 l1→Zs w W X0 X1 l1 fs→(∀ j,j < n→vzL ks X1 j (u j) W)→wpList P l.toArray Q (l.drop n) (layS a ds u 0) W):(Code.region id l.toArray true).wp P Q a W0:=by
 have hl:n≤l.length:=by
  have hB':=hB
  unfold tailsB4 at hB'
  simp only [Bool.and_eq_true,decide_eq_true_eq] at hB'
  simpa using hB'.1.1.1
 have hlen:ds.length=n:=by rw [hds]; simp; omega
 obtain ⟨old,hold⟩:∃ old:Nat→Value,old=fun k=>((ds.getD k none).map fun t=>a.tmps.getD t undef).getD undef:=⟨_,rfl⟩
 refine wp_region_inv4 n (fun L a' W=>∃ (u:Nat→Value) (X1:Nat→Prop) (l1:BX),Rel L u X1 l1∧Zs w W X0 X1 l1 fs∧(∀ j,j < n→L j=true→vzL ks X1 j (u j) W)∧(∀ j,j < n→L j=false→u j=old j)∧(∀ k,k < n→L k=true→∀ j,Region.waitsFor .any l.toArray k j=true→L j=true)∧a'=layS a ds u 0) hm hB ?_ ?_ ?_
 ·
  obtain ⟨X1,l1,h1,h2⟩:=h0 old
  refine ⟨old,X1,l1,h1,h2,nofun,fun _ _ _=>rfl,nofun,(layS_self a ds _ 0 (fun j d hj=>?_)).symm⟩
  have:ds.getD (0+j) none=d:=by rw [Nat.zero_add,List.getD_eq_getElem?_getD,hj]; rfl
  rw [hold]
  simp only
  rw [this]
 ·
  rintro L a' W i hi ⟨u,X1,l1,hR,hJ,hu,ho,hc,rfl⟩ hLi hw
  have hil:i < l.length:=Nat.lt_of_lt_of_le hi hl
  have hid:ds[i]?=some l[i].dst:=by
   rw [hds]
   simp [List.getElem?_take,hi,hil]
  have hinn:∀ j d,ds[j]?=some (some d)→(layS a ds u 0).tmps[d]?=some (u j):=by
   intro j d hj
   have hd':d < a.tmps.size:=by
    have:=List.all_eq_true.1 hz _ (List.mem_of_getElem? hj)
    simpa using this
   have h1:=layS_in ds a u 0 j d hs hj hd'
   rwa [Nat.zero_add] at h1
  have hout:∀ j d,j < n→L j=false→ds[j]?=some (some d)→(layS a ds u 0).tmps[d]?=some (a.tmps.getD d undef):=by
   intro j d hj hL hd
   rw [hinn j d hd,ho j hj hL,hold]
   simp only [List.getD_eq_getElem?_getD,hd,Option.getD_some,Option.map_some]
  refine wpOp_step (o:=l[i]) (by simp [hil]) (fun K' hK=>?_)
  have key:∀ W' v X2 l2,Rel (upd L i) (updV u i v) X2 l2→Zs w W' X0 X2 l2 fs→vzL ks X2 i v W'→(∀ j,j < n→vzL ks X1 j (u j) W→vzL ks X2 j (u j) W')→K' ((layS a ds u 0).put l[i].dst v) W':=by
   intro W' v X2 l2 hr hj hv hb
   rw [layS_put hs hid]
   refine hK _ _ ⟨updV u i v,X2,l2,hr,hj,fun j hjn hLj=>?_,fun j hjn hLj=>?_,fun k hk hLk j hj=>?_,rfl⟩
   ·
    unfold updV
    by_cases h:j=i
    ·
     rw [if_pos h,h]; exact hv
    ·
     rw [if_neg h]
     rw [upd_ne h] at hLj
     exact hb j hjn (hu j hjn hLj)
   ·
    have h:j ≠ i:=by
     intro e
     subst e
     rw [upd_self] at hLj
     cases hLj
    unfold updV
    rw [if_neg h]
    rw [upd_ne h] at hLj
    exact ho j hjn hLj
   ·
    by_cases h:k=i
    ·
     subst h; exact upd_mono (hw j hj)
    ·
     rw [upd_ne h] at hLk
     exact upd_mono (hc k hk hLk j hj)
  rcases step i hil hi L u W _ X1 l1 hLi hc hR hJ (fun j hjn hj=>⟨hw j hj,hu j hjn (hw j hj)⟩) hu (fun t ht=>layS_out _ _ _ _ _ ht) hinn hout with ⟨h1,X2,l2,h2,h3,h4,h5⟩ | ⟨h1,h2⟩
  ·
   rw [if_neg (by rw [h1]; decide)]
   exact key W undef X2 l2 h2 h3 h4 h5
  ·
   rw [if_pos h1]
   exact h2 K' (fun v W' X2 l2 hr hj hv hb=>key W' v X2 l2 hr hj hv hb)
 ·
  rintro a' W ⟨L,hL,u,X1,l1,hR,hJ,hu,_,_,rfl⟩
  exact fin L u W X1 l1 hL hR hJ (fun j hj=>hu j hj (hL j hj))
end
theorem zrq {P:Program} {Q:Exit→Act→World→Prop} {id:Nat} {a:Act} {w W0:World} {X0 X:Nat→Prop} {l:List Oper} {lb:BX} {fs:List Fa} (n:Nat) (ds:List (Option Tmp)) (ks:List VF) (hm:P.follows .mixedOrders=true) (hB:tailsB4 .any l.toArray n=true) (hds:ds=(l.take n).map (·.dst)) (hs:slotsB ds=true)
  (hz:ds.all (fun d=>match d with | some t=>decide (t < a.tmps.size) | none=>true)=true)
  (h0:Zs w W0 X0 X lb fs)
  (step:∀ i (hi:i < l.length),i < n→∀ (L:Nat→Bool) (u:Nat→Value) (W:World) (A:Act),L i=false→(∀ k,k < n→L k=true→∀ j,Region.waitsFor .any l.toArray k j=true→L j=true)→Zs w W X0 X lb fs→(∀ j,(Nat.blt j n && Region.waitsFor .any l.toArray i j)=true→vzL ks X j (u j) W)→(∀ j,j < n→L j=true→vzL ks X j (u j) W) →
   (∀ t,some t ∉ ds→A.tmps[t]?=a.tmps[t]?)→(∀ j d,ds[j]?=some (some d)→A.tmps[d]?=some (u j))→(∀ j d,j < n→L j=false→ds[j]?=some (some d)→A.tmps[d]?=some (a.tmps.getD d undef))→OpZ P Q l[i] l.toArray A (vzL ks X) (fun W=>Zs w W X0 X lb fs) n i u W)
  (fin:∀ (u:Nat→Value) (W:World),Zs w W X0 X lb fs→(∀ j,j < n→vzL ks X j (u j) W)→wpList P l.toArray Q (l.drop n) (layS a ds u 0) W):(Code.region id l.toArray true).wp P Q a W0 :=
 wp_region_s4 n ds ks (fun _ _ X1 l1=>X=X1∧lb=l1) fs hm hB hds hs hz (fun _=>⟨X,lb,⟨rfl,rfl⟩,h0.later (Below.refl _ _).drew⟩)
  (fun i hi hin L u W A X1 l1 h1 h2 hR hJ hd hall hev hinn hold=>by
   obtain ⟨eX,el⟩:=hR
   subst eX
   subst el
   exact zos hJ (fun _=>⟨rfl,rfl⟩) (step i hi hin L u W A h1 h2 hJ (fun j hj=>by
    rw [Bool.and_eq_true] at hj
    exact (hd j (zzF hj.1) hj.2).2) hall hev hinn hold))
  (fun L u W X1 l1 _ hR hJ hd=>by
   obtain ⟨eX,el⟩:=hR
   subst eX
   subst el
   exact fin u W hJ hd)
end Go.Proofs.YtjclllindbfmhaaGreatDoor
