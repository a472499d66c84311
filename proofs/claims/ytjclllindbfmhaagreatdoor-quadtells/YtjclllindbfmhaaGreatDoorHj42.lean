/- Parts of the proof. -/
import Derived.Test.YtjclllindbfmhaaGreatDoorHj0
import Derived.Test.YtjclllindbfmhaaGreatDoorHj39
import Derived.Test.YtjclllindbfmhaaGreatDoorHj33
import Derived.Test.YtjclllindbfmhaaGreatDoorHj35
import Derived.Test.YtjclllindbfmhaaGreatDoorHj41
set_option linter.unusedSimpArgs false
set_option linter.unusedVariables false
namespace Go.Proofs.YtjclllindbfmhaaGreatDoor
/- The document's Sub, Apply, Value, Slope of layer 8, walked. No statement of the seat is proved here. -/
open Go Go.RowKit
theorem Sz.subm {e f:Nat} {x y:Int} (h:Sz e x) (k:Sz f y):Sz (e+f+1) (x - y):=(h.mono (Nat.le_add_right e f)).minus (k.mono (Nat.le_add_left f e))
set_option maxRecDepth 100000 in
set_option maxHeartbeats 12800000 in
theorem dSub {X0:Nat→Prop} {w:World} (hX:NX X0 w) (p q:NL) {x y:Int} {e f:Nat} (hp:p.ir X0 w) (hq:q.ir X0 w) (ex:p.z=x) (ey:q.z=y) (bx:Sz e x) (by_:Sz f y) (he:e≤800000) (hf:f≤800000):Calls Tryz.prog 57 #[p.v,q.v] w (PNXr X0 (x - y) w):=by
 have hZ0:=zs_start hX
 have hZ1:=hZ0.more (f:=q.ir) q.stbr hq
 clear hZ0
 have hZ2:=hZ1.more (f:=p.ir) p.stbr hp
 clear hZ1
 go_enter Tryz.func57,Tryz.ntmps57
 have ez_p:=ex
 have ez_q:=ey
 go_wp2_with (refine zsb 43 (.tmp 0) #[.bool p.b,.slice p.a p.n p.c] rfl rfl rfl hZ2 (fun bk1 X3 W1 hZ3=>?_))
 clear hZ2
 simp only [Stop,Act.put,zzC,zzD,zzE]
 go_wp2_with (refine zsb 43 (.tmp 1) #[.bool q.b,.slice q.a q.n q.c] rfl rfl rfl hZ3 (fun bk2 X4 W2 hZ4=>?_))
 clear hZ3
 simp only [Stop,Act.put,zzC,zzD,zzE]
 go_wp2_with (refine zsa 43 #[.bool false,.slice none 0 0] (.agg #[.bool false,.slice none 0 0]) rfl rfl zv43 rfl hZ4 (fun bk3 X5 W3 hZ5=>?_))
 clear hZ4
 simp only [Stop,Act.put,zzC,zzD,zzE]
 go_wp2
 obtain ⟨XR1,hZ6⟩:∃ Xr,Zs w W3 X0 Xr [(bk3,#[.bool false,.slice none 0 0],43),(bk2,#[.bool q.b,.slice q.a q.n q.c],43),(bk1,#[.bool p.b,.slice p.a p.n p.c],43)] [p.ir,q.ir]:=⟨_,hZ5⟩
 clear hZ5
 refine zrp 4 [some 5,some 6,some 7,some 8] [veq (p.v),veq (q.v),vnumr (-y),vnumr (x+(-y))] (by kernel_rfl) (by kernel_rfl) (by rfl) (by decide) (by rfl) hZ6 ?_ ?_
 ·
  intro iq hlq hiq LL uu ww aa hLi hLc hJ hd hall hev hin hold
  clear hZ6
  obtain rfl | rfl | rfl | rfl:iq=0∨iq=1∨iq=2∨iq=3:=by omega
  ·
   exact oz rfl (fun _ hK=>wp_load 43 (.tmp 2) rfl bk1 0 2 #[.bool p.b,.slice p.a p.n p.c] #[.bool p.b,.slice p.a p.n p.c] 43 (hJ.es.at' _ (zzG (i:=2) rfl)) (zet ((hev 2 (by decide)).trans rfl)) ag43 sz43 (zzF (by kernel_rfl)) (by kernel_rfl) (hK _ _ hJ rfl vsm))
  ·
   exact oz rfl (fun _ hK=>wp_load 43 (.tmp 3) rfl bk2 0 2 #[.bool q.b,.slice q.a q.n q.c] #[.bool q.b,.slice q.a q.n q.c] 43 (hJ.es.at' _ (zzG (i:=1) rfl)) (zet ((hev 3 (by decide)).trans rfl)) ag43 sz43 (zzF (by kernel_rfl)) (by kernel_rfl) (hK _ _ hJ rfl vsm))
  ·
   refine oz rfl (fun _ hK=>zcz (.func 97) #[.tmp 6] #[43] 97 #[] #[q.v] _ rfl rfl (map1 (zj (hin 1 6 rfl) (show uu 1=q.v from (hd 1 (by kernel_rfl))))) rfl (fun _ _=>rfl) (zNegr (hJ.get 1 (f:=q.ir) rfl) ez_q) ?_)
   rintro zz ww2 ⟨q1,rfl,ez_q1,hi_q1,hB⟩
   exact ⟨_,rfl,hK _ _ (hJ.later hB) ⟨q1,rfl,ez_q1,hi_q1⟩ (vlat hB)⟩
  ·
   obtain ⟨q1,e2,ez_q1,hi_q1⟩:=(show (vnumr (-y)) (uu 2) XR1 ww from (hd 2 (by kernel_rfl)))
   replace hJ:=hJ.more (f:=q1.ir) q1.stbr hi_q1
   refine oz rfl (fun _ hK=>zcz (.func 55) #[.tmp 5,.tmp 7] #[43,43] 55 #[] #[p.v,q1.v] _ rfl rfl (map2 (zj (hin 0 5 rfl) (show uu 0=p.v from (hd 0 (by kernel_rfl)))) (zj (hin 2 7 rfl) e2)) rfl (fun _ _=>rfl) (zAddr hJ.nx (hJ.get 1 (f:=p.ir) rfl) (hJ.get 0 (f:=q1.ir) rfl) ez_p ez_q1 bx (Sz.neg by_) (by omega) (by omega)) ?_)
   rintro zz ww2 ⟨q2,rfl,ez_q2,hi_q2,hB⟩
   exact ⟨_,rfl,hK _ _ ((hJ.only [p.ir,q.ir] (by simp)).later hB) ⟨q2,rfl,ez_q2,hi_q2⟩ (vlat hB)⟩
 clear hZ6
 intro uu W4 hZ7 hd
 have e_0:uu 0=p.v:=hd 0 (by decide)
 have e_1:uu 1=q.v:=hd 1 (by decide)
 obtain ⟨q1,e_2,ez_q1,hi_q1⟩:=(show (vnumr (-y)) (uu 2) XR1 W4 from hd 2 (by decide))
 obtain ⟨q2,e_3,ez_q2,hi_q2⟩:=(show (vnumr (x+(-y))) (uu 3) XR1 W4 from hd 3 (by decide))
 clear hd
 simp only [layS,Act.put,zzC,zzD,zzE,Nat.zero_add,Nat.reduceAdd,List.drop_succ_cons,List.drop_zero,List.drop_nil,e_0,e_1,e_2,e_3]
 clear e_0 e_1 e_2 e_3
 have hZ8:=hZ7.more (f:=q1.ir) q1.stbr hi_q1
 clear hZ7 hi_q1
 have hZ9:=hZ8.more (f:=q2.ir) q2.stbr hi_q2
 clear hZ8 hi_q2
 go_wp2_with (refine zss 43 (.tmp 4) (.tmp 8) 0 bk3 0 #[.bool false,.slice none 0 0] 43 2 [.bool q2.b,.slice q2.a q2.n q2.c] #[.bool q2.b,.slice q2.a q2.n q2.c] [(bk3,#[.bool q2.b,.slice q2.a q2.n q2.c],43),(bk2,#[.bool q.b,.slice q.a q.n q.c],43),(bk1,#[.bool p.b,.slice p.a p.n p.c],43)] rfl rfl rfl rfl sz43 hZ9 rfl rfl (zzF (by kernel_rfl)) (by kernel_rfl) (by kernel_rfl) (by kernel_rfl) (fun W5 hZ10=>?_))
 clear hZ9
 simp only [Stop,Act.put,zzC,zzD,zzE]
 go_wp2
 exact bodyPost_ret (v:=q2.v) (results_cell 0 Tryz.results57 hZ10.es rfl ag43 sz43 (zzF (by kernel_rfl)) rfl (by kernel_rfl)) rfl ⟨q2,rfl,ez_q2.trans (by omega),hZ10.out 0 (f:=q2.ir) rfl,hZ10.below⟩
set_option maxRecDepth 100000 in
set_option maxHeartbeats 12800000 in
theorem dValue8 {X0:Nat→Prop} {w:World} (hX:NX X0 w) (p s:Sl) (c:NL) {n e:Nat} {P:Nat→Nat→Int} {q:Nat→Int} {C:Int} {x:Nat→Int} (xs:Sl) (hp:Mr n (fun _=>n) P p X0 w) (hq:Lr n q s X0 w) (hc:c.ir X0 w) (ez_c:c.z=C) (hxs:Lr n x xs X0 w) (bP:∀ i j,i < n→j < n→Sz e (P i j)) (bq:∀ i,i < n→Sz e (q i)) (bC:Sz e C) (bx:∀ i,i < n→Sz e (x i)) (hn:n≤100) (he:e≤10000):Calls Tryz.prog 21 #[.agg #[p.v,s.v,.bool c.b,.slice c.a c.n c.c],xs.v] w (PNXr X0 (Vq n P q C x) w):=by
 have hZ0:=zs_start hX
 have hZ1:=hZ0.more (f:=c.ir) c.stbr hc
 clear hZ0
 have hZ2:=hZ1.more (f:=Lr n q s) (Lr.stb _ _ _) hq
 clear hZ1
 have hZ3:=hZ2.more (f:=Mr n (fun _=>n) P p) (Mr.stb _ _ _ _) hp
 clear hZ2
 have hZ4:=hZ3.more (f:=Lr n x xs) (Lr.stb _ _ _) hxs
 clear hZ3
 go_enter Tryz.func21,Tryz.ntmps21
 go_wp2_with (refine zsb 45 (.tmp 0) #[p.v,s.v,.bool c.b,.slice c.a c.n c.c] rfl rfl rfl hZ4 (fun bk1 X5 W1 hZ5=>?_))
 clear hZ4
 simp only [Stop,Act.put,zzC,zzD,zzE]
 go_wp2_with (refine zsa 43 #[.bool false,.slice none 0 0] (.agg #[.bool false,.slice none 0 0]) rfl rfl zv43 rfl hZ5 (fun bk2 X6 W2 hZ6=>?_))
 clear hZ5
 simp only [Stop,Act.put,zzC,zzD,zzE]
 go_wp2
 obtain ⟨XR1,hZ7⟩:∃ Xr,Zs w W2 X0 Xr [(bk2,#[.bool false,.slice none 0 0],43),(bk1,#[p.v,s.v,.bool c.b,.slice c.a c.n c.c],45)] [Lr n x xs,Mr n (fun _=>n) P p,Lr n q s,c.ir]:=⟨_,hZ6⟩
 clear hZ6
 have hVS1:∀ kq,kq ∈ ([veq (.pointer (some ⟨bk1,1,none⟩)),veq (s.v),veq (xs.v),vnumr (M.sm n (fun t=>q t*x t)),veq (.pointer (some ⟨bk1,1,none⟩)),veq (s.v),veq (xs.v),vnumr (M.sm n (fun t=>q t*x t)),vnumr ((M.sm n (fun t=>q t*x t))+(M.sm n (fun t=>q t*x t))),vany]:List VF)→VSt kq:=by
  intro kq hkq
  simp only [List.mem_cons,List.not_mem_nil,or_false] at hkq
  rcases hkq with rfl | rfl | rfl | rfl | rfl | rfl | rfl | rfl | rfl | rfl
  ·
   exact (zve _).st
  ·
   exact (zve _).st
  ·
   exact (zve _).st
  ·
   exact (vnum_ser _).st
  ·
   exact (zve _).st
  ·
   exact (zve _).st
  ·
   exact (zve _).st
  ·
   exact (vnum_ser _).st
  ·
   exact (vnum_ser _).st
  ·
   exact (vany_se).st
 have hVE1:∀ kq,kq ∈ ([veq (.pointer (some ⟨bk1,1,none⟩)),veq (s.v),veq (xs.v),vnumr (M.sm n (fun t=>q t*x t)),veq (.pointer (some ⟨bk1,1,none⟩)),veq (s.v),veq (xs.v),vnumr (M.sm n (fun t=>q t*x t)),vnumr ((M.sm n (fun t=>q t*x t))+(M.sm n (fun t=>q t*x t))),vany]:List VF)→VSe kq:=by
  intro kq hkq
  simp only [List.mem_cons,List.not_mem_nil,or_false] at hkq
  rcases hkq with rfl | rfl | rfl | rfl | rfl | rfl | rfl | rfl | rfl | rfl
  ·
   exact zve _
  ·
   exact zve _
  ·
   exact zve _
  ·
   exact vnum_ser _
  ·
   exact zve _
  ·
   exact zve _
  ·
   exact zve _
  ·
   exact vnum_ser _
  ·
   exact vnum_ser _
  ·
   exact vany_se
 refine wp_region_s 10 [some 6,some 7,some 8,some 9,some 10,some 11,some 12,some 13,some 14,some 5] [veq (.pointer (some ⟨bk1,1,none⟩)),veq (s.v),veq (xs.v),vnumr (M.sm n (fun t=>q t*x t)),veq (.pointer (some ⟨bk1,1,none⟩)),veq (s.v),veq (xs.v),vnumr (M.sm n (fun t=>q t*x t)),vnumr ((M.sm n (fun t=>q t*x t))+(M.sm n (fun t=>q t*x t))),vany] (RelA 9 XR1 [(bk2,#[.bool false,.slice none 0 0],43),(bk1,#[p.v,s.v,.bool c.b,.slice c.a c.n c.c],45)] 43 (fun C=>C=#[.bool false,.slice none 0 0])) [Lr n x xs,Mr n (fun _=>n) P p,Lr n q s,c.ir] (by kernel_rfl) (by kernel_rfl) (by rfl) (by decide) (by rfl) (fun u=>⟨XR1,[(bk2,#[.bool false,.slice none 0 0],43),(bk1,#[p.v,s.v,.bool c.b,.slice c.a c.n c.c],45)],RelA.start,hZ7.later (Below.refl _ _).drew⟩) ?_ ?_
 ·
  intro iq hlq hiq LL uu ww aa X1 l1 hLi hLc hR hJ hd hall hev hin hold
  clear hZ7
  obtain rfl | rfl | rfl | rfl | rfl | rfl | rfl | rfl | rfl | rfl:iq=0∨iq=1∨iq=2∨iq=3∨iq=4∨iq=5∨iq=6∨iq=7∨iq=8∨iq=9:=by omega
  ·
   refine zos hJ (fun _=>hR.keep (by decide) _) ?_
   exact .inr ⟨rfl,fun K' hK=>wp_fda (v:=.pointer (some ⟨bk1,1,none⟩)) 45 (.tmp 2) 1 rfl (zet ((hev 2 (by decide)).trans rfl)) (fun _=>by kernel_rfl) (hK _ _ hJ rfl zvs)⟩
  ·
   refine zos hJ (fun _=>hR.keep (by decide) _) ?_
   exact .inr ⟨rfl,fun K' hK=>wp_load1 (v:=s.v) 40 (.tmp 6) rfl bk1 1 #[p.v,s.v,.bool c.b,.slice c.a c.n c.c] 45 (hJ.es.at' _ (hR.1 _ (zzG (i:=1) rfl))) (zj (hin 0 6 rfl) (show uu 0=.pointer (some ⟨bk1,1,none⟩) from (hd 0 (by decide) (by kernel_rfl)).2)) ag40 (by kernel_rfl) (hK _ _ hJ rfl zvs)⟩
  ·
   refine zos hJ (fun _=>hR.keep (by decide) _) ?_
   exact .inr ⟨rfl,fun K' hK=>wp_move (.tmp 1) rfl (zet ((hev 1 (by decide)).trans rfl)) (hK _ _ hJ rfl zvs)⟩
  ·
   refine zos hJ (fun _=>hR.keep (by decide) _) ?_
   refine .inr ⟨rfl,fun K' hK=>?_⟩
   refine zcz (.func 54) #[.tmp 7,.tmp 8] #[40,40] 54 #[] #[s.v,xs.v] _ rfl rfl (map2 (zj (hin 1 7 rfl) (show uu 1=s.v from (hd 1 (by decide) (by kernel_rfl)).2)) (zj (hin 2 8 rfl) (show uu 2=xs.v from (hd 2 (by decide) (by kernel_rfl)).2))) rfl (fun _ _=>rfl) (dDot hJ.nx s xs (e:=(e+e)) (hJ.get 2 (f:=Lr n q s) rfl) (hJ.get 0 (f:=Lr n x xs) rfl) (fun kz hkz=>(bq kz hkz).mono (Nat.le_add_right _ _)) (fun kz hkz=>(bx kz hkz).mono (Nat.le_add_left _ _)) (by omega) (by omega)) ?_
   rintro zz ww2 ⟨q1,rfl,ez_q1,hi_q1,hB⟩
   exact ⟨_,rfl,hK _ _ (hJ.later hB) ⟨q1,rfl,ez_q1,hi_q1⟩ (zvl hVS1 hB)⟩
  ·
   refine zos hJ (fun _=>hR.keep (by decide) _) ?_
   exact .inr ⟨rfl,fun K' hK=>wp_fda (v:=.pointer (some ⟨bk1,1,none⟩)) 45 (.tmp 2) 1 rfl (zet ((hev 2 (by decide)).trans rfl)) (fun _=>by kernel_rfl) (hK _ _ hJ rfl zvs)⟩
  ·
   refine zos hJ (fun _=>hR.keep (by decide) _) ?_
   exact .inr ⟨rfl,fun K' hK=>wp_load1 (v:=s.v) 40 (.tmp 10) rfl bk1 1 #[p.v,s.v,.bool c.b,.slice c.a c.n c.c] 45 (hJ.es.at' _ (hR.1 _ (zzG (i:=1) rfl))) (zj (hin 4 10 rfl) (show uu 4=.pointer (some ⟨bk1,1,none⟩) from (hd 4 (by decide) (by kernel_rfl)).2)) ag40 (by kernel_rfl) (hK _ _ hJ rfl zvs)⟩
  ·
   refine zos hJ (fun _=>hR.keep (by decide) _) ?_
   exact .inr ⟨rfl,fun K' hK=>wp_move (.tmp 1) rfl (zet ((hev 1 (by decide)).trans rfl)) (hK _ _ hJ rfl zvs)⟩
  ·
   refine zos hJ (fun _=>hR.keep (by decide) _) ?_
   refine .inr ⟨rfl,fun K' hK=>?_⟩
   refine zcz (.func 54) #[.tmp 11,.tmp 12] #[40,40] 54 #[] #[s.v,xs.v] _ rfl rfl (map2 (zj (hin 5 11 rfl) (show uu 5=s.v from (hd 5 (by decide) (by kernel_rfl)).2)) (zj (hin 6 12 rfl) (show uu 6=xs.v from (hd 6 (by decide) (by kernel_rfl)).2))) rfl (fun _ _=>rfl) (dDot hJ.nx s xs (e:=(e+e)) (hJ.get 2 (f:=Lr n q s) rfl) (hJ.get 0 (f:=Lr n x xs) rfl) (fun kz hkz=>(bq kz hkz).mono (Nat.le_add_right _ _)) (fun kz hkz=>(bx kz hkz).mono (Nat.le_add_left _ _)) (by omega) (by omega)) ?_
   rintro zz ww2 ⟨q2,rfl,ez_q2,hi_q2,hB⟩
   exact ⟨_,rfl,hK _ _ (hJ.later hB) ⟨q2,rfl,ez_q2,hi_q2⟩ (zvl hVS1 hB)⟩
  ·
   refine zos hJ (fun _=>hR.keep (by decide) _) ?_
   obtain ⟨q1,e3,ez_q1,hi_q1⟩:=(show (vnumr (M.sm n (fun t=>q t*x t))) (uu 3) X1 ww from (hd 3 (by decide) (by kernel_rfl)).2)
   obtain ⟨q2,e7,ez_q2,hi_q2⟩:=(show (vnumr (M.sm n (fun t=>q t*x t))) (uu 7) X1 ww from (hd 7 (by decide) (by kernel_rfl)).2)
   replace hJ:=hJ.more (f:=q1.ir) q1.stbr hi_q1
   replace hJ:=hJ.more (f:=q2.ir) q2.stbr hi_q2
   refine .inr ⟨rfl,fun K' hK=>?_⟩
   refine zcz (.func 55) #[.tmp 9,.tmp 13] #[43,43] 55 #[] #[q1.v,q2.v] _ rfl rfl (map2 (zj (hin 3 9 rfl) e3) (zj (hin 7 13 rfl) e7)) rfl (fun _ _=>rfl) (zAddr hJ.nx (hJ.get 1 (f:=q1.ir) rfl) (hJ.get 0 (f:=q2.ir) rfl) ez_q1 ez_q2 (sm_sz (fun (t:Nat) (ht:t < n)=>Sz.mul (bq t ht) (bx t ht))) (sm_sz (fun (t:Nat) (ht:t < n)=>Sz.mul (bq t ht) (bx t ht))) (by omega) (by omega)) ?_
   rintro zz ww2 ⟨q3,rfl,ez_q3,hi_q3,hB⟩
   exact ⟨_,rfl,hK _ _ ((hJ.only [Lr n x xs,Mr n (fun _=>n) P p,Lr n q s,c.ir] (by simp)).later hB) ⟨q3,rfl,ez_q3,hi_q3⟩ (zvl hVS1 hB)⟩
  ·
   obtain ⟨eX,el⟩:=hR.no hLi
   subst el
   subst eX
   exact .inr ⟨rfl,fun K' hK=>wp_alloc 43 rfl (.agg #[.bool false,.slice none 0 0]) zv43 (hK _ _ _ _ (RelA.made rfl rfl) (hJ.new #[.bool false,.slice none 0 0] 43) trivial (vzL_e hVE1 (ext_new _ _ _ _)))⟩
 clear hZ7
 intro LL uu W3 X1 l1 hLL hR hZ8 hd
 obtain ⟨bk3,CA,eA,hsA,el⟩:=hR.yes (hLL 9 (by decide))
 subst el
 subst hsA
 have e_0:uu 0=.pointer (some ⟨bk1,1,none⟩):=hd 0 (by decide)
 have e_1:uu 1=s.v:=hd 1 (by decide)
 have e_2:uu 2=xs.v:=hd 2 (by decide)
 obtain ⟨q1,e_3,ez_q1,hi_q1⟩:=(show (vnumr (M.sm n (fun t=>q t*x t))) (uu 3) X1 W3 from hd 3 (by decide))
 have e_4:uu 4=.pointer (some ⟨bk1,1,none⟩):=hd 4 (by decide)
 have e_5:uu 5=s.v:=hd 5 (by decide)
 have e_6:uu 6=xs.v:=hd 6 (by decide)
 obtain ⟨q2,e_7,ez_q2,hi_q2⟩:=(show (vnumr (M.sm n (fun t=>q t*x t))) (uu 7) X1 W3 from hd 7 (by decide))
 obtain ⟨q3,e_8,ez_q3,hi_q3⟩:=(show (vnumr ((M.sm n (fun t=>q t*x t))+(M.sm n (fun t=>q t*x t)))) (uu 8) X1 W3 from hd 8 (by decide))
 have e_9:uu 9=.pointer (some ⟨bk3,0,none⟩):=eA
 clear hd hVS1 hVE1
 simp only [layS,Act.put,zzC,zzD,zzE,Nat.zero_add,Nat.reduceAdd,List.drop_succ_cons,List.drop_zero,List.drop_nil,e_0,e_1,e_2,e_3,e_4,e_5,e_6,e_7,e_8,e_9]
 clear e_0 e_1 e_2 e_3 e_4 e_5 e_6 e_7 e_8 e_9
 have hZ9:=hZ8.more (f:=q1.ir) q1.stbr hi_q1
 clear hZ8 hi_q1
 have hZ10:=hZ9.more (f:=q2.ir) q2.stbr hi_q2
 clear hZ9 hi_q2
 have hZ11:=hZ10.more (f:=q3.ir) q3.stbr hi_q3
 clear hZ10 hi_q3
 go_wp2_with (refine zss 43 (.tmp 5) (.tmp 14) 0 bk3 0 #[.bool false,.slice none 0 0] 43 2 [.bool q3.b,.slice q3.a q3.n q3.c] #[.bool q3.b,.slice q3.a q3.n q3.c] [(bk3,#[.bool q3.b,.slice q3.a q3.n q3.c],43),(bk2,#[.bool false,.slice none 0 0],43),(bk1,#[p.v,s.v,.bool c.b,.slice c.a c.n c.c],45)] rfl rfl rfl rfl sz43 hZ11 rfl rfl (zzF (by kernel_rfl)) (by kernel_rfl) (by kernel_rfl) (by kernel_rfl) (fun W4 hZ12=>?_))
 clear hZ11
 simp only [Stop,Act.put,zzC,zzD,zzE]
 go_wp2
 obtain ⟨XR2,hZ13⟩:∃ Xr,Zs w W4 X0 Xr [(bk3,#[.bool q3.b,.slice q3.a q3.n q3.c],43),(bk2,#[.bool false,.slice none 0 0],43),(bk1,#[p.v,s.v,.bool c.b,.slice c.a c.n c.c],45)] [q3.ir,q2.ir,q1.ir,Lr n x xs,Mr n (fun _=>n) P p,Lr n q s,c.ir]:=⟨_,hZ12⟩
 clear hZ12
 refine zrp 8 [some 15,some 16,some 17,some 18,some 19,some 20,some 21,some 22] [veq (.pointer (some ⟨bk1,0,none⟩)),veq (p.v),veq (xs.v),vnumr (Qf n P x),veq (q3.v),vnumr ((Qf n P x) - ((M.sm n (fun t=>q t*x t))+(M.sm n (fun t=>q t*x t)))),veq (.pointer (some ⟨bk1,2,none⟩)),veq (c.v)] (by kernel_rfl) (by kernel_rfl) (by rfl) (by decide) (by rfl) hZ13 ?_ ?_
 ·
  intro iq hlq hiq LL uu ww aa hLi hLc hJ hd hall hev hin hold
  clear hZ13
  obtain rfl | rfl | rfl | rfl | rfl | rfl | rfl | rfl:iq=0∨iq=1∨iq=2∨iq=3∨iq=4∨iq=5∨iq=6∨iq=7:=by omega
  ·
   exact oz rfl (fun _ hK=>wp_fda (v:=.pointer (some ⟨bk1,0,none⟩)) 45 (.tmp 2) 0 rfl (zet ((hev 2 (by decide)).trans rfl)) (fun _=>by kernel_rfl) (hK _ _ hJ rfl vsm))
  ·
   exact oz rfl (fun _ hK=>wp_load1 (v:=p.v) 39 (.tmp 15) rfl bk1 0 #[p.v,s.v,.bool c.b,.slice c.a c.n c.c] 45 (hJ.es.at' _ (zzG (i:=2) rfl)) (zj (hin 0 15 rfl) (show uu 0=.pointer (some ⟨bk1,0,none⟩) from (hd 0 (by kernel_rfl)))) ag39 (by kernel_rfl) (hK _ _ hJ rfl vsm))
  ·
   exact oz rfl (fun _ hK=>wp_move (.tmp 1) rfl (zet ((hev 1 (by decide)).trans rfl)) (hK _ _ hJ rfl vsm))
  ·
   refine oz rfl (fun _ hK=>zcz (.func 56) #[.tmp 16,.tmp 17] #[39,40] 56 #[] #[p.v,xs.v] _ rfl rfl (map2 (zj (hin 1 16 rfl) (show uu 1=p.v from (hd 1 (by kernel_rfl)))) (zj (hin 2 17 rfl) (show uu 2=xs.v from (hd 2 (by kernel_rfl))))) rfl (fun _ _=>rfl) (dQuad hJ.nx p xs (e:=e) (hJ.get 4 (f:=Mr n (fun _=>n) P p) rfl) (hJ.get 3 (f:=Lr n x xs) rfl) bP bx (by omega) (by omega)) ?_)
   rintro zz ww2 ⟨q4,rfl,ez_q4,hi_q4,hB⟩
   exact ⟨_,rfl,hK _ _ (hJ.later hB) ⟨q4,rfl,ez_q4,hi_q4⟩ (vlat hB)⟩
  ·
   exact oz rfl (fun _ hK=>wp_load 43 (.tmp 5) rfl bk3 0 2 #[.bool q3.b,.slice q3.a q3.n q3.c] #[.bool q3.b,.slice q3.a q3.n q3.c] 43 (hJ.es.at' _ (zzG (i:=0) rfl)) (zet ((hev 5 (by decide)).trans rfl)) ag43 sz43 (zzF (by kernel_rfl)) (by kernel_rfl) (hK _ _ hJ rfl vsm))
  ·
   obtain ⟨q4,e3,ez_q4,hi_q4⟩:=(show (vnumr (Qf n P x)) (uu 3) XR2 ww from (hd 3 (by kernel_rfl)))
   replace hJ:=hJ.more (f:=q4.ir) q4.stbr hi_q4
   refine oz rfl (fun _ hK=>zcz (.func 57) #[.tmp 18,.tmp 19] #[43,43] 57 #[] #[q4.v,q3.v] _ rfl rfl (map2 (zj (hin 3 18 rfl) e3) (zj (hin 4 19 rfl) (show uu 4=q3.v from (hd 4 (by kernel_rfl))))) rfl (fun _ _=>rfl) (dSub hJ.nx q4 q3 (hJ.get 0 (f:=q4.ir) rfl) (hJ.get 1 (f:=q3.ir) rfl) ez_q4 ez_q3 (show Sz (e+(e+e+n)+n) (Qf n P x) from sm_sz (fun (i:Nat) (hi:i < n)=>Sz.mul (bx i hi) (sm_sz (fun (t:Nat) (ht:t < n)=>Sz.mul (bP i t hi ht) (bx t ht))))) (Sz.add (sm_sz (fun (t:Nat) (ht:t < n)=>Sz.mul (bq t ht) (bx t ht))) (sm_sz (fun (t:Nat) (ht:t < n)=>Sz.mul (bq t ht) (bx t ht)))) (by omega) (by omega)) ?_)
   rintro zz ww2 ⟨q5,rfl,ez_q5,hi_q5,hB⟩
   exact ⟨_,rfl,hK _ _ ((hJ.only [q3.ir,q2.ir,q1.ir,Lr n x xs,Mr n (fun _=>n) P p,Lr n q s,c.ir] (by simp)).later hB) ⟨q5,rfl,ez_q5,hi_q5⟩ (vlat hB)⟩
  ·
   exact oz rfl (fun _ hK=>wp_fda (v:=.pointer (some ⟨bk1,2,none⟩)) 45 (.tmp 2) 2 rfl (zet ((hev 2 (by decide)).trans rfl)) (fun _=>by kernel_rfl) (hK _ _ hJ rfl vsm))
  ·
   exact oz rfl (fun _ hK=>wp_load 43 (.tmp 21) rfl bk1 2 2 #[p.v,s.v,.bool c.b,.slice c.a c.n c.c] #[.bool c.b,.slice c.a c.n c.c] 45 (hJ.es.at' _ (zzG (i:=2) rfl)) (zj (hin 6 21 rfl) (show uu 6=.pointer (some ⟨bk1,2,none⟩) from (hd 6 (by kernel_rfl)))) ag43 sz43 (zzF (by kernel_rfl)) (by kernel_rfl) (hK _ _ hJ rfl vsm))
 clear hZ13
 intro uu W5 hZ14 hd
 have e_0:uu 0=.pointer (some ⟨bk1,0,none⟩):=hd 0 (by decide)
 have e_1:uu 1=p.v:=hd 1 (by decide)
 have e_2:uu 2=xs.v:=hd 2 (by decide)
 obtain ⟨q4,e_3,ez_q4,hi_q4⟩:=(show (vnumr (Qf n P x)) (uu 3) XR2 W5 from hd 3 (by decide))
 have e_4:uu 4=q3.v:=hd 4 (by decide)
 obtain ⟨q5,e_5,ez_q5,hi_q5⟩:=(show (vnumr ((Qf n P x) - ((M.sm n (fun t=>q t*x t))+(M.sm n (fun t=>q t*x t))))) (uu 5) XR2 W5 from hd 5 (by decide))
 have e_6:uu 6=.pointer (some ⟨bk1,2,none⟩):=hd 6 (by decide)
 have e_7:uu 7=c.v:=hd 7 (by decide)
 clear hd
 simp only [layS,Act.put,zzC,zzD,zzE,Nat.zero_add,Nat.reduceAdd,List.drop_succ_cons,List.drop_zero,List.drop_nil,e_0,e_1,e_2,e_3,e_4,e_5,e_6,e_7]
 clear e_0 e_1 e_2 e_3 e_4 e_5 e_6 e_7
 have hZ15:=hZ14.more (f:=q4.ir) q4.stbr hi_q4
 clear hZ14 hi_q4
 have hZ16:=hZ15.more (f:=q5.ir) q5.stbr hi_q5
 clear hZ15 hi_q5
 go_wp2_with fail
 refine (zAddr hZ16.nx (hZ16.get 0 (f:=q5.ir) rfl) (hZ16.get 8 (f:=c.ir) rfl) ez_q5 ez_c (Sz.subm (show Sz (e+(e+e+n)+n) (Qf n P x) from sm_sz (fun (i:Nat) (hi:i < n)=>Sz.mul (bx i hi) (sm_sz (fun (t:Nat) (ht:t < n)=>Sz.mul (bP i t hi ht) (bx t ht))))) (Sz.add (sm_sz (fun (t:Nat) (ht:t < n)=>Sz.mul (bq t ht) (bx t ht))) (sm_sz (fun (t:Nat) (ht:t < n)=>Sz.mul (bq t ht) (bx t ht))))) bC (by omega) (by omega)).mono ?_
 rintro zz W6 ⟨q6,rfl,ez_q6,hi_q6,hB⟩
 have hZ17:=hZ16.later hB
 clear hB hZ16
 have hZ18:=hZ17.more (f:=q6.ir) q6.stbr hi_q6
 clear hZ17 hi_q6
 go_wp2_with (refine zss 43 (.tmp 4) (.tmp 23) 1 bk2 0 #[.bool false,.slice none 0 0] 43 2 [.bool q6.b,.slice q6.a q6.n q6.c] #[.bool q6.b,.slice q6.a q6.n q6.c] [(bk3,#[.bool q3.b,.slice q3.a q3.n q3.c],43),(bk2,#[.bool q6.b,.slice q6.a q6.n q6.c],43),(bk1,#[p.v,s.v,.bool c.b,.slice c.a c.n c.c],45)] rfl rfl rfl rfl sz43 hZ18 rfl rfl (zzF (by kernel_rfl)) (by kernel_rfl) (by kernel_rfl) (by kernel_rfl) (fun W7 hZ19=>?_))
 clear hZ18
 simp only [Stop,Act.put,zzC,zzD,zzE]
 go_wp2
 exact bodyPost_ret (v:=q6.v) (results_cell 1 Tryz.results21 hZ19.es rfl ag43 sz43 (zzF (by kernel_rfl)) rfl (by kernel_rfl)) rfl ⟨q6,rfl,ez_q6.trans (by unfold Vq; omega),hZ19.out 0 (f:=q6.ir) rfl,hZ19.below⟩
set_option maxRecDepth 100000 in
set_option maxHeartbeats 12800000 in
theorem dApplyO {X0:Nat→Prop} {w:World} (hX:NX X0 w) (a xs:Sl) {n e:Nat} {B:Nat→Nat→Int} {x:Nat→Int} (ha:Mr n (fun _=>n) B a X0 w) (hx:Lr n x xs X0 w) (bB:∀ i j,i < n→j < n→Sz e (B i j)) (bx:∀ k,k < n→Sz e (x k)) (hn:n≤1000) (he:e≤200000):Calls Tryz.prog 58 #[a.v,xs.v] w (POwn X0 2 (ENr (M.mulv n B x)) n 43 w):=by
 have hZ0:=zs_start hX
 have hZ1:=hZ0.more (f:=Lr n x xs) (Lr.stb _ _ _) hx
 clear hZ0
 have hZ2:=hZ1.more (f:=Mr n (fun _=>n) B a) (Mr.stb _ _ _ _) ha
 clear hZ1
 go_enter Tryz.func58,Tryz.ntmps58
 have hZ3:=hZ2.only [Mr n (fun _=>n) B a,Lr n x xs] (by simp)
 clear hZ2
 go_wp2
 go_loopw [5,6] (fun ov iv wr=>∃ (i:Nat) (so:Sl) (Co:Array Value) (X:Nat→Prop),i≤n∧iv=.int .i64 ((i:Nat):Int)∧ov=so.v∧so.n=i∧Wr 2 so Co∧Zs w wr X0 X ([]++owl so Co 43) [Fl 2 (ENr (M.mulv n B x)) i Co,Mr n (fun _=>n) B a,Lr n x xs]) (fun _ iv _=>n - (intOf iv).toNat)
 case atStart=>exact ⟨0,slz,#[],_,by omega,rfl,rfl,rfl,wr_slz 2,by simpa [owl,slz] using (hZ3.more (f:=Fl 2 (ENr (M.mulv n B x)) 0 #[]) (Fl.stb (ENr.stb _) _ _) (fl_zero 2 (ENr (M.mulv n B x)) #[] _ _))⟩
 case round =>
  clear hZ3
  obtain ⟨i,so,Co,X,hi,rfl,rfl,hn_so,hw_so,hZ⟩:=hrel
  by_cases hlt:i < n
  ·
   go_wp2_with (refine zso rfl (fun K hK=>wp_lenq (.tmp 8) 39 40 a rfl (by kernel_rfl) rfl (hZ.get 1 (f:=Mr n (fun _=>n) B a) rfl).n (hK _ _ ?_)))
   simp only [Stop,Act.put,zzC,zzD,zzE]
   go_wp2_with (refine zso rfl (fun K hK=>wp_lssi (.tmp 7) (.tmp 9) rfl rfl rfl (r:=true) (decide_eq_true (by omega)) (hK _ _ ?_)))
   simp only [Stop,Act.put,zzC,zzD,zzE]
   go_wp2_with (refine zso rfl (fun K hK=>wp_ixs 39 (.tmp 14) (.tmp 15) a i 1 40 rfl rfl rfl (by kernel_rfl) sz40 (fun h=>((hZ.get 1 (f:=Mr n (fun _=>n) B a) rfl).sq.nil h).1) ((hZ.get 1 (f:=Mr n (fun _=>n) B a) rfl).n ▸ (by omega)) (hK _ _ ?_)))
   simp only [Stop,Act.put,zzC,zzD,zzE]
   go_wp2_with (refine zso rfl (fun K hK=>wp_ldmr 40 (.tmp 16) a i n (fun _=>n) B rfl rfl (hZ.get 1 (f:=Mr n (fun _=>n) B a) rfl) (by omega) ag40 (fun s1 hi_s1=>hK _ _ ?_)))
   simp only [Stop,Act.put,zzC,zzD,zzE]
   have hZ4:=hZ.more (f:=Lr n (B i) s1) (Lr.stb _ _ _) hi_s1
   clear hZ hi_s1
   go_wp2_with fail
   refine (dDot hZ4.nx s1 xs (e:=(e+e)) (hZ4.get 0 (f:=Lr n (B i) s1) rfl) (hZ4.get 3 (f:=Lr n x xs) rfl) (fun kz hkz=>((fun t ht=>bB i t (by omega) ht) kz hkz).mono (Nat.le_add_right _ _)) (fun kz hkz=>(bx kz hkz).mono (Nat.le_add_left _ _)) (by omega) (by omega)).mono ?_
   rintro zz W1 ⟨q2,rfl,ez_q2,hi_q2,hB⟩
   have hZ5:=hZ4.later hB
   clear hB hZ4
   have hZ6:=hZ5.more (f:=q2.ir) q2.stbr hi_q2
   clear hZ5 hi_q2
   go_wp2_with (refine zso rfl (fun K hK=>wp_bs2 ei40 (.tmp 19) rfl rfl (hK _ _ ?_)))
   simp only [Stop,Act.put,zzC,zzD,zzE]
   have hZ7:=hZ6.later (below_new _ (.cells #[.bool q2.b,.slice q2.a q2.n q2.c] 43))
   clear hZ6
   have hZ8y:=hZ7.perm List.perm_append_comm
   go_wp2_with (refine zso rfl (fun K hK=>wp_app ei40 (.tmp 13) (.tmp 20) rfl (s:=so) rfl ⟨W1.heap.size,0,none⟩ 1 rfl hw_so (by rw [hn_so]; omega) hZ8y [.bool q2.b,.slice q2.a q2.n q2.c] rfl (cell_two _ (.bool q2.b) (.slice q2.a q2.n q2.c) _) (fun u hu=>by simp only [List.mem_cons,List.not_mem_nil,or_false] at hu; rcases hu with rfl | rfl <;> rfl) (fun o3 C3 X8 W2 hn_o3 hw_o3 ho_C3 hg_C3 hZ8x=>hK _ _ ?_)))
   simp only [Stop,Act.put,zzC,zzD,zzE]
   clear hZ8y
   rw [hn_so] at hn_o3 ho_C3 hg_C3
   have hZ8:=hZ8x.perm List.perm_append_comm
   clear hZ8x hZ7
   have hZ9s:Fl 2 (ENr (M.mulv n B x)) (i+1) C3 X8 W2:=Fl.snoc (C:=Co) (hZ8.get 2 (f:=Fl 2 (ENr (M.mulv n B x)) i Co) rfl) (cs:=[.bool q2.b,.slice q2.a q2.n q2.c]) rfl ho_C3 hg_C3 ⟨q2,ez_q2,(hZ8.get 0 (f:=q2.ir) rfl),rfl⟩
   have hZ9:=(hZ8.more (Fl.stb (ENr.stb _) _ _) hZ9s).only [Fl 2 (ENr (M.mulv n B x)) (i+1) C3,Mr n (fun _=>n) B a,Lr n x xs] (by simp)
   clear hZ8 hZ9s
   go_wp2_with (refine zso rfl (fun K hK=>wp_addi (.tmp 11) (.const (.int .i64 1)) rfl rfl rfl (C:=((i+1:Nat):Int)) (by omega) (by omega) (by omega) (hK _ _ ?_)))
   simp only [Stop,Act.put,zzC,zzD,zzE]
   go_wp2
   go_roundw
   case rel=>exact ⟨i+1,o3,C3,_,by omega,by go_num,rfl,hn_o3,hw_o3,hZ9⟩
   case measure=>simp [intOf]; omega
  ·
   obtain rfl:n=i:=by omega
   go_wp2_with (refine zso rfl (fun K hK=>wp_lenq (.tmp 8) 39 40 a rfl (by kernel_rfl) rfl (hZ.get 1 (f:=Mr n (fun _=>n) B a) rfl).n (hK _ _ ?_)))
   simp only [Stop,Act.put,zzC,zzD,zzE]
   go_wp2_with (refine zso rfl (fun K hK=>wp_lssi (.tmp 7) (.tmp 9) rfl rfl rfl (r:=false) (decide_eq_false (Int.lt_irrefl _)) (hK _ _ ?_)))
   simp only [Stop,Act.put,zzC,zzD,zzE]
   go_wp2
   go_ret
   exact ⟨so,Co,X,rfl,hn_so,hw_so,hZ.only [Fl 2 (ENr (M.mulv n B x)) n Co] (by simp)⟩
/-- The slope, of which so many numbers are done. -/
def slopeA (n:Nat) (P:Nat→Nat→Int) (q x:Nat→Int) (i k:Nat):Int:=M.mulv n P x k - if k < i then q k else 0
section
variable {n i k e:Nat} {P:Nat→Nat→Int} {q x:Nat→Int}
theorem slopeA_0:slopeA n P q x 0 k=M.mulv n P x k:=by
 unfold slopeA
 rw [if_neg (Nat.not_lt_zero k),Int.sub_zero]
theorem slopeA_put:slopeA n P q x (i+1) i=slopeA n P q x i i - q i:=by
 unfold slopeA
 rw [if_pos (by omega),if_neg (by omega)]
 omega
theorem slopeA_ne (h:k ≠ i):slopeA n P q x (i+1) k=slopeA n P q x i k:=by
 unfold slopeA
 by_cases e:k < i
 ·
  rw [if_pos e,if_pos (by omega)]
 ·
  rw [if_neg e,if_neg (by omega)]
theorem slopeA_end (h:i < n):slopeA n P q x n i=M.mulv n P x i - q i:=by
 unfold slopeA
 rw [if_pos h]
theorem slopeA_sz (bP:∀ i j,i < n→j < n→Sz e (P i j)) (bq:∀ i,i < n→Sz e (q i)) (bx:∀ i,i < n→Sz e (x i)) (i:Nat) {k:Nat} (hk:k < n):Sz (e+e+n+e+1) (slopeA n P q x i k):=by
 have h1:Sz (e+e+n) (M.mulv n P x k):=sm_sz (fun (t:Nat) (ht:t < n)=>Sz.mul (bP k t hk ht) (bx t ht))
 unfold slopeA
 split
 ·
  exact h1.subm (bq k hk)
 ·
  exact (h1.subm (sz_zero e))
end
set_option maxRecDepth 100000 in
set_option maxHeartbeats 12800000 in
theorem dSlope8 {X0:Nat→Prop} {w:World} (hX:NX X0 w) (p s:Sl) (c:NL) {n e:Nat} {P:Nat→Nat→Int} {q:Nat→Int} {C:Int} {x:Nat→Int} (xs:Sl) (hp:Mr n (fun _=>n) P p X0 w) (hq:Lr n q s X0 w) (hc:c.ir X0 w) (ez_c:c.z=C) (hxs:Lr n x xs X0 w) (bP:∀ i j,i < n→j < n→Sz e (P i j)) (bq:∀ i,i < n→Sz e (q i)) (bC:Sz e C) (bx:∀ i,i < n→Sz e (x i)) (hn:n≤100) (he:e≤10000):Calls Tryz.prog 24 #[.agg #[p.v,s.v,.bool c.b,.slice c.a c.n c.c],xs.v] w (PLXr X0 n (fun i=>M.mulv n P x i - q i) w):=by
 have hZ0:=zs_start hX
 have hZ1:=hZ0.more (f:=c.ir) c.stbr hc
 clear hZ0
 have hZ2:=hZ1.more (f:=Lr n q s) (Lr.stb _ _ _) hq
 clear hZ1
 have hZ3:=hZ2.more (f:=Mr n (fun _=>n) P p) (Mr.stb _ _ _ _) hp
 clear hZ2
 have hZ4:=hZ3.more (f:=Lr n x xs) (Lr.stb _ _ _) hxs
 clear hZ3
 go_enter Tryz.func24,Tryz.ntmps24
 go_wp2_with (refine zsb 45 (.tmp 0) #[p.v,s.v,.bool c.b,.slice c.a c.n c.c] rfl rfl rfl hZ4 (fun bk1 X5 W1 hZ5=>?_))
 clear hZ4
 simp only [Stop,Act.put,zzC,zzD,zzE]
 have hZ6:=hZ5.release hX
 clear hZ5
 go_wp2_with (refine zso rfl (fun K hK=>wp_fda (v:=.pointer (some ⟨bk1,0,none⟩)) 45 (.tmp 2) 0 rfl rfl (fun _=>by kernel_rfl) (hK _ _ ?_)))
 simp only [Stop,Act.put,zzC,zzD,zzE]
 go_wp2_with (refine zso rfl (fun K hK=>wp_load1 (v:=p.v) 39 (.tmp 7) rfl bk1 0 #[p.v,s.v,.bool c.b,.slice c.a c.n c.c] 45 (hZ6.get 0 (f:=Cf bk1 #[p.v,s.v,.bool c.b,.slice c.a c.n c.c] 45) rfl).1 rfl ag39 (by kernel_rfl) (hK _ _ ?_)))
 simp only [Stop,Act.put,zzC,zzD,zzE]
 go_wp2_with fail
 refine (dApplyO hZ6.nx p xs (e:=e) (hZ6.get 2 (f:=Mr n (fun _=>n) P p) rfl) (hZ6.get 1 (f:=Lr n x xs) rfl) bP bx (by omega) (by omega)).mono ?_
 rintro zz W2 ⟨so,Co,XC,rfl,hn_so,hw_so,hz_so⟩
 have hZ7:=hZ6.andThen hz_so
 clear hZ6 hz_so
 have hZ8:Zs w W2 X0 XC ([]++owl so Co 43) [Fl 2 (ENr (M.mulv n P x)) n Co,Cf bk1 #[p.v,s.v,.bool c.b,.slice c.a c.n c.c] 45,Lr n x xs,Mr n (fun _=>n) P p,Lr n q s,c.ir]:=hZ7.perm List.perm_append_comm
 clear hZ7
 have hZ9:=(hZ8.more (f:=Fl 2 (ENr (slopeA n P q x 0)) n Co) (Fl.stb (ENr.stb _) _ _) ((hZ8.get 0 (f:=Fl 2 (ENr (M.mulv n P x)) n Co) rfl).congr fun i _ hi ⟨p,h1,h2⟩=>⟨p,h1.trans slopeA_0.symm,h2⟩)).only [Fl 2 (ENr (slopeA n P q x 0)) n Co,Cf bk1 #[p.v,s.v,.bool c.b,.slice c.a c.n c.c] 45,Lr n q s] (by simp)
 clear hZ8
 go_wp2
 go_loopw [6] (fun iv wr=>∃ (i:Nat) (Co:Array Value) (X:Nat→Prop),i≤n∧iv=.int .i64 ((i:Nat):Int)∧Wr 2 so Co∧Zs w wr X0 X ([]++owl so Co 43) [Fl 2 (ENr (slopeA n P q x i)) n Co,Cf bk1 #[p.v,s.v,.bool c.b,.slice c.a c.n c.c] 45,Lr n q s]) (fun iv _=>n - (intOf iv).toNat)
 case atStart=>exact ⟨0,Co,_,by omega,rfl,hw_so,hZ9⟩
 case round =>
  clear hZ9 hw_so
  obtain ⟨i,Ci,X,hi,rfl,hw_so,hZ⟩:=hrel
  by_cases hlt:i < n
  ·
   go_wp2_with (refine zso rfl (fun K hK=>wp_lenq (.tmp 12) 40 43 so rfl (by kernel_rfl) rfl hn_so (hK _ _ ?_)))
   simp only [Stop,Act.put,zzC,zzD,zzE]
   go_wp2_with (refine zso rfl (fun K hK=>wp_lssi (.tmp 11) (.tmp 13) rfl rfl rfl (r:=true) (decide_eq_true (by omega)) (hK _ _ ?_)))
   simp only [Stop,Act.put,zzC,zzD,zzE]
   go_wp2
   obtain ⟨XR5,hZ10⟩:∃ Xr,Zs w wr X0 Xr ([]++owl so Ci 43) [Fl 2 (ENr (slopeA n P q x i)) n Ci,Cf bk1 #[p.v,s.v,.bool c.b,.slice c.a c.n c.c] 45,Lr n q s]:=⟨_,hZ⟩
   clear hZ
   refine zrp 12 [some 17,some 18,some 19,some 20,some 21,some 22,some 23,some 24,some 25,some 26,some 27,some 28] [veq (so.v),veq (.int .i64 (((i:Nat):Int))),veq (so.v),veq (.int .i64 (((i:Nat):Int))),veq ((so.at 2 i)),vnumr ((slopeA n P q x i) i),veq (.pointer (some ⟨bk1,1,none⟩)),veq (s.v),veq (.int .i64 (((i:Nat):Int))),veq ((s.at 2 i)),vnumr (q i),vnumr (((slopeA n P q x i) i) - (q i))] (by kernel_rfl) (by kernel_rfl) (by rfl) (by decide) (by rfl) hZ10 ?_ ?_
   ·
    intro iq hlq hiq LL uu ww aa hLi hLc hJ hd hall hev hin hold
    clear hZ10
    obtain rfl | rfl | rfl | rfl | rfl | rfl | rfl | rfl | rfl | rfl | rfl | rfl:iq=0∨iq=1∨iq=2∨iq=3∨iq=4∨iq=5∨iq=6∨iq=7∨iq=8∨iq=9∨iq=10∨iq=11:=by omega
    ·
     exact oz rfl (fun _ hK=>wp_move (.tmp 5) rfl (zet ((hev 5 (by decide)).trans rfl)) (hK _ _ hJ rfl vsm))
    ·
     exact oz rfl (fun _ hK=>wp_move (.tmp 6) rfl (zet ((hev 6 (by decide)).trans rfl)) (hK _ _ hJ rfl vsm))
    ·
     exact oz rfl (fun _ hK=>wp_move (.tmp 5) rfl (zet ((hev 5 (by decide)).trans rfl)) (hK _ _ hJ rfl vsm))
    ·
     exact oz rfl (fun _ hK=>wp_move (.tmp 6) rfl (zet ((hev 6 (by decide)).trans rfl)) (hK _ _ hJ rfl vsm))
    ·
     exact oz rfl (fun _ hK=>wp_ixs 40 (.tmp 19) (.tmp 20) so i 2 43 rfl (zj (hin 2 19 rfl) (show uu 2=so.v from (hd 2 (by kernel_rfl)))) (zj (hin 3 20 rfl) (show uu 3=.int .i64 (((i:Nat):Int)) from (hd 3 (by kernel_rfl)))) (by kernel_rfl) sz43 hw_so.nil (by rw [hn_so]; omega) (hK _ _ hJ rfl vsm))
    ·
     exact oz rfl (fun _ hK=>wp_ldnor 43 43 (.tmp 21) so i n (slopeA n P q x i) Ci rfl (zj (hin 4 21 rfl) (show uu 4=(so.at 2 i) from (hd 4 (by kernel_rfl)))) hw_so (hJ.perm List.perm_append_comm) (hJ.get 0 (f:=Fl 2 (ENr (slopeA n P q x i)) n Ci) rfl) (by omega) (by rw [hn_so]; omega) ag43 sz43 (fun q1 ez_q1 hi_q1=>hK _ _ hJ ⟨q1,rfl,ez_q1,hi_q1⟩ vsm))
    ·
     exact oz rfl (fun _ hK=>wp_fda (v:=.pointer (some ⟨bk1,1,none⟩)) 45 (.tmp 2) 1 rfl (zet ((hev 2 (by decide)).trans rfl)) (fun _=>by kernel_rfl) (hK _ _ hJ rfl vsm))
    ·
     exact oz rfl (fun _ hK=>wp_load1 (v:=s.v) 40 (.tmp 23) rfl bk1 1 #[p.v,s.v,.bool c.b,.slice c.a c.n c.c] 45 (hJ.get 1 (f:=Cf bk1 #[p.v,s.v,.bool c.b,.slice c.a c.n c.c] 45) rfl).1 (zj (hin 6 23 rfl) (show uu 6=.pointer (some ⟨bk1,1,none⟩) from (hd 6 (by kernel_rfl)))) ag40 (by kernel_rfl) (hK _ _ hJ rfl vsm))
    ·
     exact oz rfl (fun _ hK=>wp_move (.tmp 6) rfl (zet ((hev 6 (by decide)).trans rfl)) (hK _ _ hJ rfl vsm))
    ·
     exact oz rfl (fun _ hK=>wp_ixs 40 (.tmp 24) (.tmp 25) s i 2 43 rfl (zj (hin 7 24 rfl) (show uu 7=s.v from (hd 7 (by kernel_rfl)))) (zj (hin 8 25 rfl) (show uu 8=.int .i64 (((i:Nat):Int)) from (hd 8 (by kernel_rfl)))) (by kernel_rfl) sz43 (fun h=>((hJ.get 2 (f:=Lr n q s) rfl).sq.nil h).1) ((hJ.get 2 (f:=Lr n q s) rfl).n ▸ (by omega)) (hK _ _ hJ rfl vsm))
    ·
     exact oz rfl (fun _ hK=>wp_ldnr 43 (.tmp 26) s i n q rfl (zj (hin 9 26 rfl) (show uu 9=(s.at 2 i) from (hd 9 (by kernel_rfl)))) (hJ.get 2 (f:=Lr n q s) rfl) (by omega) ag43 sz43 (fun q2 ez_q2 hi_q2=>hK _ _ hJ ⟨q2,rfl,ez_q2,hi_q2⟩ vsm))
    ·
     obtain ⟨q1,e5,ez_q1,hi_q1⟩:=(show (vnumr ((slopeA n P q x i) i)) (uu 5) XR5 ww from (hd 5 (by kernel_rfl)))
     obtain ⟨q2,e10,ez_q2,hi_q2⟩:=(show (vnumr (q i)) (uu 10) XR5 ww from (hd 10 (by kernel_rfl)))
     replace hJ:=hJ.more (f:=q1.ir) q1.stbr hi_q1
     replace hJ:=hJ.more (f:=q2.ir) q2.stbr hi_q2
     refine oz rfl (fun _ hK=>zcz (.func 57) #[.tmp 22,.tmp 27] #[43,43] 57 #[] #[q1.v,q2.v] _ rfl rfl (map2 (zj (hin 5 22 rfl) e5) (zj (hin 10 27 rfl) e10)) rfl (fun _ _=>rfl) (dSub hJ.nx q1 q2 (hJ.get 1 (f:=q1.ir) rfl) (hJ.get 0 (f:=q2.ir) rfl) ez_q1 ez_q2 (slopeA_sz bP bq bx i hlt) (bq i (by omega)) (by omega) (by omega)) ?_)
     rintro zz ww2 ⟨q3,rfl,ez_q3,hi_q3,hB⟩
     exact ⟨_,rfl,hK _ _ ((hJ.only [Fl 2 (ENr (slopeA n P q x i)) n Ci,Cf bk1 #[p.v,s.v,.bool c.b,.slice c.a c.n c.c] 45,Lr n q s] (by simp)).later hB) ⟨q3,rfl,ez_q3,hi_q3⟩ (vlat hB)⟩
   clear hZ10
   intro uu W3 hZ11 hd
   have e_0:uu 0=so.v:=hd 0 (by decide)
   have e_1:uu 1=.int .i64 (((i:Nat):Int)):=hd 1 (by decide)
   have e_2:uu 2=so.v:=hd 2 (by decide)
   have e_3:uu 3=.int .i64 (((i:Nat):Int)):=hd 3 (by decide)
   have e_4:uu 4=(so.at 2 i):=hd 4 (by decide)
   obtain ⟨q1,e_5,ez_q1,hi_q1⟩:=(show (vnumr ((slopeA n P q x i) i)) (uu 5) XR5 W3 from hd 5 (by decide))
   have e_6:uu 6=.pointer (some ⟨bk1,1,none⟩):=hd 6 (by decide)
   have e_7:uu 7=s.v:=hd 7 (by decide)
   have e_8:uu 8=.int .i64 (((i:Nat):Int)):=hd 8 (by decide)
   have e_9:uu 9=(s.at 2 i):=hd 9 (by decide)
   obtain ⟨q2,e_10,ez_q2,hi_q2⟩:=(show (vnumr (q i)) (uu 10) XR5 W3 from hd 10 (by decide))
   obtain ⟨q3,e_11,ez_q3,hi_q3⟩:=(show (vnumr (((slopeA n P q x i) i) - (q i))) (uu 11) XR5 W3 from hd 11 (by decide))
   clear hd
   simp only [layS,Act.put,zzC,zzD,zzE,Nat.zero_add,Nat.reduceAdd,List.drop_succ_cons,List.drop_zero,List.drop_nil,e_0,e_1,e_2,e_3,e_4,e_5,e_6,e_7,e_8,e_9,e_10,e_11]
   clear e_0 e_1 e_2 e_3 e_4 e_5 e_6 e_7 e_8 e_9 e_10 e_11
   have hZ12:=hZ11.more (f:=q1.ir) q1.stbr hi_q1
   clear hZ11 hi_q1
   have hZ13:=hZ12.more (f:=q2.ir) q2.stbr hi_q2
   clear hZ12 hi_q2
   have hZ14:=hZ13.more (f:=q3.ir) q3.stbr hi_q3
   clear hZ13 hi_q3
   go_wp2_with (refine zso rfl (fun K hK=>wp_ixs 40 (.tmp 17) (.tmp 18) so i 2 43 rfl rfl rfl (by kernel_rfl) sz43 hw_so.nil (by rw [hn_so]; omega) (hK _ _ ?_)))
   simp only [Stop,Act.put,zzC,zzD,zzE]
   have hZ15y:=hZ14.perm List.perm_append_comm
   go_wp2_with (refine stopz_put 43 (.tmp 29) (.tmp 28) so Ci i [.bool q3.b,.slice q3.a q3.n q3.c] rfl rfl rfl rfl sz43 rfl (by kernel_rfl) hw_so (by rw [hn_so]; omega) hZ15y (fun C4 W4 hw_son hg_C4 ho_C4 hZ15x=>?_))
   clear hZ15y hw_so
   have hw_so:=hw_son
   clear hw_son
   have hZ15:=hZ15x.perm List.perm_append_comm
   clear hZ15x hZ14
   simp only [Stop,Act.put,zzC,zzD,zzE]
   have hZ16r:Fl 2 (ENr (slopeA n P q x (i+1))) n C4 XR5 W4:=Fl.put (hZ15.get 3 (f:=Fl 2 (ENr (slopeA n P q x i)) n Ci) rfl) (cs:=[.bool q3.b,.slice q3.a q3.n q3.c]) rfl hg_C4 ho_C4 ⟨q3,ez_q3.trans slopeA_put.symm,(hZ15.get 0 (f:=q3.ir) rfl),rfl⟩ (fun t cs _ hne ⟨p,h1,h2,h3⟩=>⟨p,h1.trans (slopeA_ne hne).symm,h2,h3⟩)
   have hZ16:=(hZ15.more (f:=Fl 2 (ENr (slopeA n P q x (i+1))) n C4) (Fl.stb (ENr.stb _) _ _) hZ16r).only [Fl 2 (ENr (slopeA n P q x (i+1))) n C4,Cf bk1 #[p.v,s.v,.bool c.b,.slice c.a c.n c.c] 45,Lr n q s] (by simp)
   clear hZ15 hZ16r
   go_wp2_with (refine zso rfl (fun K hK=>wp_addi (.tmp 15) (.const (.int .i64 1)) rfl rfl rfl (C:=((i+1:Nat):Int)) (by omega) (by omega) (by omega) (hK _ _ ?_)))
   simp only [Stop,Act.put,zzC,zzD,zzE]
   go_wp2
   go_roundw
   case rel=>exact ⟨i+1,C4,_,by omega,by go_num,hw_so,hZ16⟩
   case measure=>simp [intOf]; omega
  ·
   obtain rfl:n=i:=by omega
   go_wp2_with (refine zso rfl (fun K hK=>wp_lenq (.tmp 12) 40 43 so rfl (by kernel_rfl) rfl hn_so (hK _ _ ?_)))
   simp only [Stop,Act.put,zzC,zzD,zzE]
   go_wp2_with (refine zso rfl (fun K hK=>wp_lssi (.tmp 11) (.tmp 13) rfl rfl rfl (r:=false) (decide_eq_false (Int.lt_irrefl _)) (hK _ _ ?_)))
   simp only [Stop,Act.put,zzC,zzD,zzE]
   go_wp2
   go_ret
   exact ⟨so,rfl,Lr.congr (⟨hn_so,hZ.sq hX (ENr.stb _) hw_so (T:=43) (fun p hp=>hp) (hn_so ▸ hZ.get 0 (f:=Fl 2 (ENr (slopeA n P q x n)) n Ci) rfl)⟩:Lr n (slopeA n P q x n) so X0 _) (fun i hi=>slopeA_end hi),hZ.below⟩
end Go.Proofs.YtjclllindbfmhaaGreatDoor
