/- Parts of the proof. -/
import Derived.Test.YtjclllindbfmhaaGreatDoorHn0
import Derived.Test.YtjclllindbfmhaaGreatDoorHn44
set_option linter.unusedSimpArgs false
set_option linter.unusedVariables false
namespace Go.Proofs.YtjclllindbfmhaaGreatDoor
/- The document's With of layer 8, walked. No statement of the seat is proved here. -/
open Go Go.RowKit
section
variable {k r i j e:Nat} {P:Nat→Nat→Int} {q y:Nat→Int} {C:Int}
/-- A number of the function with numbers told, of which so many are done. -/
def qA (k:Nat) (P:Nat→Nat→Int) (q y:Nat→Int) (i j:Nat):Int:=q i - M.sm j (fun u=>P i (k+u)*y u)
/-- What it is at 0, of which so many numbers are done. -/
def cA (k r:Nat) (P:Nat→Nat→Int) (q:Nat→Int) (C:Int) (y:Nat→Int) (i:Nat):Int:=C - M.sm i (fun t=>2*q (k+t)*y t)+M.sm i (fun t=>M.sm r (fun u=>P (k+t) (k+u)*y t*y u))
def cB (k r:Nat) (P:Nat→Nat→Int) (q:Nat→Int) (C:Int) (y:Nat→Int) (i j:Nat):Int:=C - M.sm (i+1) (fun t=>2*q (k+t)*y t)+M.sm i (fun t=>M.sm r (fun u=>P (k+t) (k+u)*y t*y u))+M.sm j (fun u=>P (k+i) (k+u)*y i*y u)
theorem qA_0:q i=qA k P q y i 0:=(Int.sub_zero _).symm
theorem qA_step:qA k P q y i j - P i (k+j)*y j=qA k P q y i (j+1):=by
 show q i - M.sm j (fun u=>P i (k+u)*y u) - P i (k+j)*y j=q i - (M.sm j (fun u=>P i (k+u)*y u)+P i (k+j)*y j)
 omega
theorem cA_0:C=cA k r P q C y 0:=by show C=C - 0+0; omega
theorem cB_0:cA k r P q C y i - 2*q (k+i)*y i=cB k r P q C y i 0:=by
 show C - M.sm i (fun t=>2*q (k+t)*y t)+M.sm i (fun t=>M.sm r (fun u=>P (k+t) (k+u)*y t*y u)) - 2*q (k+i)*y i=C - (M.sm i (fun t=>2*q (k+t)*y t)+2*q (k+i)*y i)+M.sm i (fun t=>M.sm r (fun u=>P (k+t) (k+u)*y t*y u))+0
 omega
theorem cB_step:cB k r P q C y i j+P (k+i) (k+j)*y i*y j=cB k r P q C y i (j+1):=Int.add_assoc _ _ _
theorem cB_end:cB k r P q C y i r=cA k r P q C y (i+1):=by
 show C - M.sm (i+1) (fun t=>2*q (k+t)*y t)+M.sm i (fun t=>M.sm r (fun u=>P (k+t) (k+u)*y t*y u))+M.sm r (fun u=>P (k+i) (k+u)*y i*y u)=C - M.sm (i+1) (fun t=>2*q (k+t)*y t)+(M.sm i (fun t=>M.sm r (fun u=>P (k+t) (k+u)*y t*y u))+M.sm r (fun u=>P (k+i) (k+u)*y i*y u))
 omega
theorem cA_end:cA k r P q C y r=wc k r P q C y:=by
 unfold cA wc Qf
 congr 1
 ·
  rw [← M.sm_mul]
  congr 1
  exact M.sm_congr fun t _=>Int.mul_assoc _ _ _
 ·
  refine M.sm_congr fun t _=>?_
  unfold M.mulv
  rw [← M.sm_mul]
  exact M.sm_congr fun u _=>by grind
theorem qA_sz (bP:∀ i j,i < k+r→j < k+r→Sz e (P i j)) (bq:∀ i,i < k+r→Sz e (q i)) (by_:∀ i,i < r→Sz e (y i)) (hi:i < k) (hj:j≤r):Sz (e+(e+e+j)+1) (qA k P q y i j):=(bq i (by omega)).subm (sm_sz fun (u:Nat) (hu:u < j)=>Sz.mul (bP i (k+u) (by omega) (by omega)) (by_ u (by omega)))
theorem cB_sz (bP:∀ i j,i < k+r→j < k+r→Sz e (P i j)) (bq:∀ i,i < k+r→Sz e (q i)) (bC:Sz e C) (by_:∀ i,i < r→Sz e (y i)) (he:e≤10000) (hr:k+r≤100) (hi:i < r) (hj:j≤r):Sz 80000 (cB k r P q C y i j):=by
 have h1:Sz (2+e+e+(i+1)) (M.sm (i+1) (fun t=>2*q (k+t)*y t)):=sm_sz fun (t:Nat) (ht:t < i+1)=>Sz.mul (Sz.mul (sz_int (by decide) (by decide)) (bq (k+t) (by omega))) (by_ t (by omega))
 have h2:Sz (e+e+e+r+i) (M.sm i (fun t=>M.sm r (fun u=>P (k+t) (k+u)*y t*y u))):=sm_sz fun (t:Nat) (ht:t < i)=>sm_sz fun (u:Nat) (hu:u < r)=>Sz.mul (Sz.mul (bP (k+t) (k+u) (by omega) (by omega)) (by_ t (by omega))) (by_ u hu)
 have h3:Sz (e+e+e+j) (M.sm j (fun u=>P (k+i) (k+u)*y i*y u)):=sm_sz fun (u:Nat) (hu:u < j)=>Sz.mul (Sz.mul (bP (k+i) (k+u) (by omega) (by omega)) (by_ i hi)) (by_ u (by omega))
 exact ((((bC.mono (show _≤70000 by omega)).minus (h1.mono (show _≤70000 by omega))).plus (h2.mono (show _≤70001 by omega))).plus (h3.mono (show _≤70002 by omega))).mono (by omega)
theorem cA_sz (bP:∀ i j,i < k+r→j < k+r→Sz e (P i j)) (bq:∀ i,i < k+r→Sz e (q i)) (bC:Sz e C) (by_:∀ i,i < r→Sz e (y i)) (he:e≤10000) (hr:k+r≤100) (hi:i≤r):Sz 80000 (cA k r P q C y i):=by
 have h1:Sz (2+e+e+i) (M.sm i (fun t=>2*q (k+t)*y t)):=sm_sz fun (t:Nat) (ht:t < i)=>Sz.mul (Sz.mul (sz_int (by decide) (by decide)) (bq (k+t) (by omega))) (by_ t (by omega))
 have h2:Sz (e+e+e+r+i) (M.sm i (fun t=>M.sm r (fun u=>P (k+t) (k+u)*y t*y u))):=sm_sz fun (t:Nat) (ht:t < i)=>sm_sz fun (u:Nat) (hu:u < r)=>Sz.mul (Sz.mul (bP (k+t) (k+u) (by omega) (by omega)) (by_ t (by omega))) (by_ u hu)
 exact (((bC.mono (show _≤70000 by omega)).minus (h1.mono (show _≤70000 by omega))).plus (h2.mono (show _≤70001 by omega))).mono (by omega)
end
set_option maxRecDepth 100000 in
set_option maxHeartbeats 12800000 in
theorem dWith8 {X0:Nat→Prop} {w:World} (hX:NX X0 w) (p s ys:Sl) (c:NL) {k r e:Nat} {P:Nat→Nat→Int} {q y:Nat→Int} {C:Int} (hp:Mr (k+r) (fun _=>k+r) P p X0 w) (hq:Lr (k+r) q s X0 w) (hc:c.ir X0 w) (ez_c:c.z=C) (hys:Lr r y ys X0 w) (bP:∀ i j,i < k+r→j < k+r→Sz e (P i j)) (bq:∀ i,i < k+r→Sz e (q i)) (bC:Sz e C) (by_:∀ i,i < r→Sz e (y i)) (hkr:k+r≤100) (he:e≤10000):Calls Tryz.prog 29 #[.agg #[p.v,s.v,.bool c.b,.slice c.a c.n c.c],ys.v] w (PUXr X0 k P (wq k r P q y) (wc k r P q C y) w):=by
 have hZ0:=zs_start hX
 have hZ1:=hZ0.more (f:=c.ir) c.stbr hc
 clear hZ0
 have hZ2:=hZ1.more (f:=Lr (k+r) q s) (Lr.stb _ _ _) hq
 clear hZ1
 have hZ3:=hZ2.more (f:=Mr (k+r) (fun _=>k+r) P p) (Mr.stb _ _ _ _) hp
 clear hZ2
 have hZ4:=hZ3.more (f:=Lr r y ys) (Lr.stb _ _ _) hys
 clear hZ3
 go_enter Tryz.func29,Tryz.ntmps29
 go_wp2_with (refine zsb 45 (.tmp 0) #[p.v,s.v,.bool c.b,.slice c.a c.n c.c] rfl rfl rfl hZ4 (fun bk1 X5 W1 hZ5=>?_))
 clear hZ4
 simp only [Stop,Act.put,zzC,zzD,zzE]
 go_wp2_with (refine zsa 45 #[.slice none 0 0,.slice none 0 0,.bool false,.slice none 0 0] (.agg #[.slice none 0 0,.slice none 0 0,.bool false,.slice none 0 0]) rfl rfl zv45 rfl hZ5 (fun bk2 X6 W2 hZ6=>?_))
 clear hZ5
 simp only [Stop,Act.put,zzC,zzD,zzE]
 have hZ7:=hZ6.perm (List.Perm.swap _ _ _)
 clear hZ6
 have hZ8:=hZ7.release hX
 clear hZ7
 go_wp2_with (refine zso rfl (fun K hK=>wp_fda (v:=.pointer (some ⟨bk1,1,none⟩)) 45 (.tmp 2) 1 rfl rfl (fun _=>by kernel_rfl) (hK _ _ ?_)))
 simp only [Stop,Act.put,zzC,zzD,zzE]
 go_wp2_with (refine zso rfl (fun K hK=>wp_load1 (v:=s.v) 40 (.tmp 13) rfl bk1 1 #[p.v,s.v,.bool c.b,.slice c.a c.n c.c] 45 (hZ8.get 0 (f:=Cf bk1 #[p.v,s.v,.bool c.b,.slice c.a c.n c.c] 45) rfl).1 rfl ag40 (by kernel_rfl) (hK _ _ ?_)))
 simp only [Stop,Act.put,zzC,zzD,zzE]
 go_wp2_with (refine zso rfl (fun K hK=>wp_lenq (.tmp 14) 40 43 s rfl (by kernel_rfl) rfl (hZ8.get 3 (f:=Lr (k+r) q s) rfl).n (hK _ _ ?_)))
 simp only [Stop,Act.put,zzC,zzD,zzE]
 go_wp2_with (refine zso rfl (fun K hK=>wp_lenq (.tmp 16) 40 43 ys rfl (by kernel_rfl) rfl (hZ8.get 1 (f:=Lr r y ys) rfl).n (hK _ _ ?_)))
 simp only [Stop,Act.put,zzC,zzD,zzE]
 go_wp2_with (refine zso rfl (fun K hK=>wp_subi (.tmp 15) (.tmp 17) rfl rfl rfl (C:=((k:Nat):Int)) (by omega) (by omega) (by omega) (hK _ _ ?_)))
 simp only [Stop,Act.put,zzC,zzD,zzE]
 go_wp2
 obtain ⟨XR2,hZ9⟩:∃ Xr,Zs w W2 X0 Xr [(bk2,#[.slice none 0 0,.slice none 0 0,.bool false,.slice none 0 0],45)] [Cf bk1 #[p.v,s.v,.bool c.b,.slice c.a c.n c.c] 45,Lr r y ys,Mr (k+r) (fun _=>k+r) P p,Lr (k+r) q s,c.ir]:=⟨_,hZ8⟩
 clear hZ8
 have hVS2:∀ kq,kq ∈ ([veq (.pointer (some ⟨bk1,0,none⟩)),veq (p.v),veq (.int .i64 (((k:Nat):Int))),vmtr k (fun _=>k) P,veq (.pointer (some ⟨bk1,2,none⟩)),veq (c.v),vuz1r k P c,vany]:List VF)→VSt kq:=by
  intro kq hkq
  simp only [List.mem_cons,List.not_mem_nil,or_false] at hkq
  rcases hkq with rfl | rfl | rfl | rfl | rfl | rfl | rfl | rfl
  ·
   exact (zve _).st
  ·
   exact (zve _).st
  ·
   exact (zve _).st
  ·
   exact (vmt_ser _ _ _).st
  ·
   exact (zve _).st
  ·
   exact (zve _).st
  ·
   exact (vuz1r_se _ _ _).st
  ·
   exact (vany_se).st
 have hVE2:∀ kq,kq ∈ ([veq (.pointer (some ⟨bk1,0,none⟩)),veq (p.v),veq (.int .i64 (((k:Nat):Int))),vmtr k (fun _=>k) P,veq (.pointer (some ⟨bk1,2,none⟩)),veq (c.v),vuz1r k P c,vany]:List VF)→VSe kq:=by
  intro kq hkq
  simp only [List.mem_cons,List.not_mem_nil,or_false] at hkq
  rcases hkq with rfl | rfl | rfl | rfl | rfl | rfl | rfl | rfl
  ·
   exact zve _
  ·
   exact zve _
  ·
   exact zve _
  ·
   exact vmt_ser _ _ _
  ·
   exact zve _
  ·
   exact zve _
  ·
   exact vuz1r_se _ _ _
  ·
   exact vany_se
 refine wp_region_s4 8 [some 19,some 20,some 21,some 22,some 23,some 24,some 25,some 6] [veq (.pointer (some ⟨bk1,0,none⟩)),veq (p.v),veq (.int .i64 (((k:Nat):Int))),vmtr k (fun _=>k) P,veq (.pointer (some ⟨bk1,2,none⟩)),veq (c.v),vuz1r k P c,vany] (RelA 7 XR2 [(bk2,#[.slice none 0 0,.slice none 0 0,.bool false,.slice none 0 0],45)] 45 (fun C=>C=#[.slice none 0 0,.slice none 0 0,.bool false,.slice none 0 0])) [Cf bk1 #[p.v,s.v,.bool c.b,.slice c.a c.n c.c] 45,Lr r y ys,Mr (k+r) (fun _=>k+r) P p,Lr (k+r) q s,c.ir] (by kernel_rfl) (by kernel_rfl) (by rfl) (by decide) (by rfl) (fun u=>⟨XR2,[(bk2,#[.slice none 0 0,.slice none 0 0,.bool false,.slice none 0 0],45)],RelA.start,hZ9.later (Below.refl _ _).drew⟩) ?_ ?_
 ·
  intro iq hlq hiq LL uu ww aa X1 l1 hLi hLc hR hJ hd hall hev hin hold
  clear hZ9
  obtain rfl | rfl | rfl | rfl | rfl | rfl | rfl | rfl:iq=0∨iq=1∨iq=2∨iq=3∨iq=4∨iq=5∨iq=6∨iq=7:=by omega
  ·
   refine zos hJ (fun _=>hR.keep (by decide) _) ?_
   exact .inr ⟨rfl,fun K' hK=>wp_fda (v:=.pointer (some ⟨bk1,0,none⟩)) 45 (.tmp 2) 0 rfl (zet ((hev 2 (by decide)).trans rfl)) (fun _=>by kernel_rfl) (hK _ _ hJ rfl zvs)⟩
  ·
   refine zos hJ (fun _=>hR.keep (by decide) _) ?_
   exact .inr ⟨rfl,fun K' hK=>wp_load1 (v:=p.v) 39 (.tmp 19) rfl bk1 0 #[p.v,s.v,.bool c.b,.slice c.a c.n c.c] 45 (hJ.get 0 (f:=Cf bk1 #[p.v,s.v,.bool c.b,.slice c.a c.n c.c] 45) rfl).1 (zj (hin 0 19 rfl) (show uu 0=.pointer (some ⟨bk1,0,none⟩) from (hd 0 (by decide) (by kernel_rfl)).2)) ag39 (by kernel_rfl) (hK _ _ hJ rfl zvs)⟩
  ·
   refine zos hJ (fun _=>hR.keep (by decide) _) ?_
   exact .inr ⟨rfl,fun K' hK=>wp_move (.tmp 5) rfl (zet ((hev 5 (by decide)).trans rfl)) (hK _ _ hJ rfl zvs)⟩
  ·
   refine zos hJ (fun _=>hR.keep (by decide) _) ?_
   refine .inr ⟨rfl,fun K' hK=>?_⟩
   refine zcz (.func 67) #[.tmp 20,.tmp 21] #[39,3] 67 #[] #[p.v,.int .i64 (((k:Nat):Int))] _ rfl rfl (map2 (zj (hin 1 20 rfl) (show uu 1=p.v from (hd 1 (by decide) (by kernel_rfl)).2)) (zj (hin 2 21 rfl) (show uu 2=.int .i64 (((k:Nat):Int)) from (hd 2 (by decide) (by kernel_rfl)).2))) rfl (fun _ _=>rfl) (dFirst hJ.nx p k (hJ.get 2 (f:=Mr (k+r) (fun _=>k+r) P p) rfl) (by omega) (by omega)) ?_
   rintro zz ww2 ⟨pg,rfl,hi_pg,hB⟩
   exact ⟨_,rfl,hK _ _ (hJ.later hB) ⟨pg,rfl,hi_pg⟩ (zvl hVS2 hB)⟩
  ·
   refine zos hJ (fun _=>hR.keep (by decide) _) ?_
   exact .inr ⟨rfl,fun K' hK=>wp_fda (v:=.pointer (some ⟨bk1,2,none⟩)) 45 (.tmp 2) 2 rfl (zet ((hev 2 (by decide)).trans rfl)) (fun _=>by kernel_rfl) (hK _ _ hJ rfl zvs)⟩
  ·
   refine zos hJ (fun _=>hR.keep (by decide) _) ?_
   exact .inr ⟨rfl,fun K' hK=>wp_load 43 (.tmp 23) rfl bk1 2 2 #[p.v,s.v,.bool c.b,.slice c.a c.n c.c] #[.bool c.b,.slice c.a c.n c.c] 45 (hJ.get 0 (f:=Cf bk1 #[p.v,s.v,.bool c.b,.slice c.a c.n c.c] 45) rfl).1 (zj (hin 4 23 rfl) (show uu 4=.pointer (some ⟨bk1,2,none⟩) from (hd 4 (by decide) (by kernel_rfl)).2)) ag43 sz43 (zzF (by kernel_rfl)) (by kernel_rfl) (hK _ _ hJ rfl zvs)⟩
  ·
   refine zos hJ (fun _=>hR.keep (by decide) _) ?_
   obtain ⟨pg,e3,hi_pg⟩:=(show (vmtr k (fun _=>k) P) (uu 3) X1 ww from (hd 3 (by decide) (by kernel_rfl)).2)
   replace hJ:=hJ.more (f:=Mr k (fun _=>k) P pg) (Mr.stb _ _ _ _) hi_pg
   exact .inr ⟨rfl,fun K' hK=>wp_bld (v:=.agg #[pg.v,.slice none 0 0,.bool c.b,.slice c.a c.n c.c]) 45 #[(0,.tmp 22),(2,.tmp 24)] rfl (bmap2 (u:=pg.v) (v:=c.v) (zj (hin 3 22 rfl) e3) (zj (hin 5 24 rfl) (show uu 5=c.v from (hd 5 (by decide) (by kernel_rfl)).2))) (fun _=>by kernel_rfl) (hK _ _ (hJ.only [Cf bk1 #[p.v,s.v,.bool c.b,.slice c.a c.n c.c] 45,Lr r y ys,Mr (k+r) (fun _=>k+r) P p,Lr (k+r) q s,c.ir] (by simp)) ⟨pg,rfl,hi_pg⟩ zvs)⟩
  ·
   obtain ⟨eX,el⟩:=hR.no hLi
   subst el
   subst eX
   exact .inr ⟨rfl,fun K' hK=>wp_alloc 45 rfl (.agg #[.slice none 0 0,.slice none 0 0,.bool false,.slice none 0 0]) zv45 (hK _ _ _ _ (RelA.made rfl rfl) (hJ.new #[.slice none 0 0,.slice none 0 0,.bool false,.slice none 0 0] 45) trivial (vzL_e hVE2 (ext_new _ _ _ _)))⟩
 clear hZ9
 intro LL uu W3 X1 l1 hLL hR hZ10 hd
 obtain ⟨bk3,CA,eA,hsA,el⟩:=hR.yes (hLL 7 (by decide))
 subst el
 subst hsA
 have e_0:uu 0=.pointer (some ⟨bk1,0,none⟩):=hd 0 (by decide)
 have e_1:uu 1=p.v:=hd 1 (by decide)
 have e_2:uu 2=.int .i64 (((k:Nat):Int)):=hd 2 (by decide)
 obtain ⟨pg,e_3,hi_pg⟩:=(show (vmtr k (fun _=>k) P) (uu 3) X1 W3 from hd 3 (by decide))
 have e_4:uu 4=.pointer (some ⟨bk1,2,none⟩):=hd 4 (by decide)
 have e_5:uu 5=c.v:=hd 5 (by decide)
 obtain ⟨pg_6,e_6,hi_pg_6⟩:=(show (vuz1r k P c) (uu 6) X1 W3 from hd 6 (by decide))
 have e_7:uu 7=.pointer (some ⟨bk3,0,none⟩):=eA
 clear hd hVS2 hVE2
 simp only [layS,Act.put,zzC,zzD,zzE,Nat.zero_add,Nat.reduceAdd,List.drop_succ_cons,List.drop_zero,List.drop_nil,e_0,e_1,e_2,e_3,e_4,e_5,e_6,e_7]
 clear e_0 e_1 e_2 e_3 e_4 e_5 e_6 e_7
 have hZ11:=hZ10.more (f:=Mr k (fun _=>k) P pg) (Mr.stb _ _ _ _) hi_pg
 clear hZ10 hi_pg
 have hZ12:=hZ11.more (f:=Mr k (fun _=>k) P pg_6) (Mr.stb _ _ _ _) hi_pg_6
 clear hZ11 hi_pg_6
 go_wp2_with (refine zss 45 (.tmp 6) (.tmp 25) 0 bk3 0 #[.slice none 0 0,.slice none 0 0,.bool false,.slice none 0 0] 45 4 [pg_6.v,.slice none 0 0,.bool c.b,.slice c.a c.n c.c] #[pg_6.v,.slice none 0 0,.bool c.b,.slice c.a c.n c.c] [(bk3,#[pg_6.v,.slice none 0 0,.bool c.b,.slice c.a c.n c.c],45),(bk2,#[.slice none 0 0,.slice none 0 0,.bool false,.slice none 0 0],45)] rfl rfl rfl rfl sz45 hZ12 rfl rfl (zzF (by kernel_rfl)) (by kernel_rfl) (by kernel_rfl) (by kernel_rfl) (fun W4 hZ13=>?_))
 clear hZ12
 simp only [Stop,Act.put,zzC,zzD,zzE]
 go_wp2_with fail
 refine (zOfr hZ13.nx (by decide) (by decide)).mono ?_
 rintro zz W5 ⟨q1,rfl,ez_q1,hi_q1,hB⟩
 have hZ14:=hZ13.later hB
 clear hB hZ13
 have hZ15:=hZ14.more (f:=q1.ir) q1.stbr hi_q1
 clear hZ14 hi_q1
 go_wp2_with (refine zsa 43 #[.bool false,.slice none 0 0] (.agg #[.bool false,.slice none 0 0]) rfl rfl zv43 rfl hZ15 (fun bk4 X16 W6 hZ16=>?_))
 clear hZ15
 simp only [Stop,Act.put,zzC,zzD,zzE]
 go_wp2_with (refine zss 43 (.tmp 7) (.tmp 26) 0 bk4 0 #[.bool false,.slice none 0 0] 43 2 [.bool q1.b,.slice q1.a q1.n q1.c] #[.bool q1.b,.slice q1.a q1.n q1.c] [(bk4,#[.bool q1.b,.slice q1.a q1.n q1.c],43),(bk3,#[pg_6.v,.slice none 0 0,.bool c.b,.slice c.a c.n c.c],45),(bk2,#[.slice none 0 0,.slice none 0 0,.bool false,.slice none 0 0],45)] rfl rfl rfl rfl sz43 hZ16 rfl rfl (zzF (by kernel_rfl)) (by kernel_rfl) (by kernel_rfl) (by kernel_rfl) (fun W7 hZ17=>?_))
 clear hZ16
 simp only [Stop,Act.put,zzC,zzD,zzE]
 have hZ18:=hZ17.release hX
 clear hZ17
 have hZ19:=hZ18.only [Mr k (fun _=>k) P pg_6,q1.ir,Cf bk4 #[.bool q1.b,.slice q1.a q1.n q1.c] 43,Cf bk1 #[p.v,s.v,.bool c.b,.slice c.a c.n c.c] 45,c.ir,Mr (k+r) (fun _=>k+r) P p,Lr (k+r) q s,Lr r y ys] (by simp)
 clear hZ18
 go_wp2
 go_loopw [8] (fun iv wr=>∃ (i:Nat) (so:Sl) (Cs:Array Value) (X:Nat→Prop),i≤k∧iv=.int .i64 ((i:Nat):Int)∧so.n=i∧Wr 2 so Cs∧Zs w wr X0 X ([(bk3,#[pg_6.v,so.v,.bool c.b,.slice c.a c.n c.c],45),(bk2,#[.slice none 0 0,.slice none 0 0,.bool false,.slice none 0 0],45)]++owl so Cs 43) [Fl 2 (ENr (wq k r P q y)) i Cs,Mr k (fun _=>k) P pg_6,q1.ir,Cf bk4 #[.bool q1.b,.slice q1.a q1.n q1.c] 43,Cf bk1 #[p.v,s.v,.bool c.b,.slice c.a c.n c.c] 45,c.ir,Mr (k+r) (fun _=>k+r) P p,Lr (k+r) q s,Lr r y ys]) (fun iv _=>k - (intOf iv).toNat)
 case atStart=>exact ⟨0,slz,#[],_,by omega,rfl,rfl,wr_slz 2,by simpa [owl,slz,Sl.v] using (hZ19.more (f:=Fl 2 (ENr (wq k r P q y)) 0 #[]) (Fl.stb (ENr.stb _) _ _) (fl_zero 2 (ENr (wq k r P q y)) #[] _ _))⟩
 case round =>
  clear hZ19
  obtain ⟨i,so,Cs,X,hi,rfl,hn_so,hw_so,hZ⟩:=hrel
  by_cases hlt:i < k
  ·
   go_wp2_with (refine zso rfl (fun K hK=>wp_lssi (.tmp 27) (.tmp 28) rfl rfl rfl (r:=true) (decide_eq_true (by omega)) (hK _ _ ?_)))
   simp only [Stop,Act.put,zzC,zzD,zzE]
   go_wp2_with (refine zso rfl (fun K hK=>wp_fda (v:=.pointer (some ⟨bk1,1,none⟩)) 45 (.tmp 2) 1 rfl rfl (fun _=>by kernel_rfl) (hK _ _ ?_)))
   simp only [Stop,Act.put,zzC,zzD,zzE]
   go_wp2_with (refine zso rfl (fun K hK=>wp_load1 (v:=s.v) 40 (.tmp 32) rfl bk1 1 #[p.v,s.v,.bool c.b,.slice c.a c.n c.c] 45 (hZ.get 4 (f:=Cf bk1 #[p.v,s.v,.bool c.b,.slice c.a c.n c.c] 45) rfl).1 rfl ag40 (by kernel_rfl) (hK _ _ ?_)))
   simp only [Stop,Act.put,zzC,zzD,zzE]
   go_wp2_with (refine zso rfl (fun K hK=>wp_ixs 40 (.tmp 33) (.tmp 34) s i 2 43 rfl rfl rfl (by kernel_rfl) sz43 (fun h=>((hZ.get 7 (f:=Lr (k+r) q s) rfl).sq.nil h).1) ((hZ.get 7 (f:=Lr (k+r) q s) rfl).n ▸ (by omega)) (hK _ _ ?_)))
   simp only [Stop,Act.put,zzC,zzD,zzE]
   go_wp2_with (refine zso rfl (fun K hK=>wp_ldnr 43 (.tmp 35) s i (k+r) q rfl rfl (hZ.get 7 (f:=Lr (k+r) q s) rfl) (by omega) ag43 sz43 (fun q2 ez_q2 hi_q2=>hK _ _ ?_)))
   simp only [Stop,Act.put,zzC,zzD,zzE]
   have hZ20:=hZ.more (f:=q2.ir) q2.stbr hi_q2
   clear hZ hi_q2
   go_wp2_with (refine zsa 43 #[.bool false,.slice none 0 0] (.agg #[.bool false,.slice none 0 0]) rfl rfl zv43 rfl hZ20 (fun bk5 X21 W8 hZ21=>?_))
   clear hZ20
   simp only [Stop,Act.put,zzC,zzD,zzE]
   go_wp2_with (refine zss 43 (.tmp 9) (.tmp 36) 0 bk5 0 #[.bool false,.slice none 0 0] 43 2 [.bool q2.b,.slice q2.a q2.n q2.c] #[.bool q2.b,.slice q2.a q2.n q2.c] ([(bk5,#[.bool q2.b,.slice q2.a q2.n q2.c],43),(bk3,#[pg_6.v,so.v,.bool c.b,.slice c.a c.n c.c],45),(bk2,#[.slice none 0 0,.slice none 0 0,.bool false,.slice none 0 0],45)]++owl so Cs 43) rfl rfl rfl rfl sz43 hZ21 rfl rfl (zzF (by kernel_rfl)) (by kernel_rfl) (by kernel_rfl) (by kernel_rfl) (fun W9 hZ22=>?_))
   clear hZ21
   simp only [Stop,Act.put,zzC,zzD,zzE]
   have hZ23:=hZ22.only [q2.ir,Fl 2 (ENr (wq k r P q y)) i Cs,Mr k (fun _=>k) P pg_6,q1.ir,Cf bk4 #[.bool q1.b,.slice q1.a q1.n q1.c] 43,Cf bk1 #[p.v,s.v,.bool c.b,.slice c.a c.n c.c] 45,c.ir,Mr (k+r) (fun _=>k+r) P p,Lr (k+r) q s,Lr r y ys] (by simp)
   clear hZ22
   go_wp2
   obtain ⟨wo,rfl⟩:∃ wo:World,wo=W9:=⟨_,rfl⟩
   go_wp2
   go_loopw [10] (fun jv wr=>∃ (j:Nat) (tq:NL) (X:Nat→Prop),j≤r∧jv=.int .i64 ((j:Nat):Int)∧tq.z=qA k P q y i j∧Zs w wr X0 X ([(bk5,#[.bool tq.b,.slice tq.a tq.n tq.c],43),(bk3,#[pg_6.v,so.v,.bool c.b,.slice c.a c.n c.c],45),(bk2,#[.slice none 0 0,.slice none 0 0,.bool false,.slice none 0 0],45)]++owl so Cs 43) [tq.ir,Fl 2 (ENr (wq k r P q y)) i Cs,Mr k (fun _=>k) P pg_6,q1.ir,Cf bk4 #[.bool q1.b,.slice q1.a q1.n q1.c] 43,Cf bk1 #[p.v,s.v,.bool c.b,.slice c.a c.n c.c] 45,c.ir,Mr (k+r) (fun _=>k+r) P p,Lr (k+r) q s,Lr r y ys]) (fun jv _=>r - (intOf jv).toNat)
   case atStart=>exact ⟨0,q2,_,by omega,rfl,ez_q2.trans qA_0,hZ23⟩
   case round =>
    clear hZ23
    obtain ⟨j,tq,X2,hj,rfl,ez_tq,hZ2⟩:=hrel
    by_cases hlt2:j < r
    ·
     go_wp2_with (refine zso rfl (fun K hK=>wp_lenq (.tmp 38) 40 43 ys rfl (by kernel_rfl) rfl (hZ2.get 9 (f:=Lr r y ys) rfl).n (hK _ _ ?_)))
     simp only [Stop,Act.put,zzC,zzD,zzE]
     go_wp2_with (refine zso rfl (fun K hK=>wp_lssi (.tmp 37) (.tmp 39) rfl rfl rfl (r:=true) (decide_eq_true (by omega)) (hK _ _ ?_)))
     simp only [Stop,Act.put,zzC,zzD,zzE]
     go_wp2
     obtain ⟨XR11,hZ24⟩:∃ Xr,Zs w wr X0 Xr ([(bk5,#[.bool tq.b,.slice tq.a tq.n tq.c],43),(bk3,#[pg_6.v,so.v,.bool c.b,.slice c.a c.n c.c],45),(bk2,#[.slice none 0 0,.slice none 0 0,.bool false,.slice none 0 0],45)]++owl so Cs 43) [tq.ir,Fl 2 (ENr (wq k r P q y)) i Cs,Mr k (fun _=>k) P pg_6,q1.ir,Cf bk4 #[.bool q1.b,.slice q1.a q1.n q1.c] 43,Cf bk1 #[p.v,s.v,.bool c.b,.slice c.a c.n c.c] 45,c.ir,Mr (k+r) (fun _=>k+r) P p,Lr (k+r) q s,Lr r y ys]:=⟨_,hZ2⟩
     clear hZ2
     refine zrq 17 [some 43,some 44,some 45,some 46,some 47,some 48,some 49,some 50,some 51,some 52,some 53,some 54,some 55,some 56,some 57,some 58,some 59] [veq (tq.v),veq (.pointer (some ⟨bk1,0,none⟩)),veq (p.v),veq (.int .i64 (((i:Nat):Int))),veq ((p.at 1 i)),vlsr (k+r) (P i),veq (.int .i64 (((k:Nat):Int))),veq (.int .i64 (((j:Nat):Int))),veq (.int .i64 (((k+j:Nat):Int))),vatr (k+r) (P i) (k+j),vnumr (P i (k+j)),veq (ys.v),veq (.int .i64 (((j:Nat):Int))),veq ((ys.at 2 j)),vnumr (y j),vnumr ((P i (k+j))*(y j)),vnumr ((qA k P q y i j) - ((P i (k+j))*(y j)))] (by kernel_rfl) (by kernel_rfl) (by rfl) (by decide) (by rfl) hZ24 ?_ ?_
     ·
      intro iq hlq hiq LL uu ww aa hLi hLc hJ hd hall hev hin hold
      clear hZ24
      obtain rfl | rfl | rfl | rfl | rfl | rfl | rfl | rfl | rfl | rfl | rfl | rfl | rfl | rfl | rfl | rfl | rfl:iq=0∨iq=1∨iq=2∨iq=3∨iq=4∨iq=5∨iq=6∨iq=7∨iq=8∨iq=9∨iq=10∨iq=11∨iq=12∨iq=13∨iq=14∨iq=15∨iq=16:=by omega
      ·
       exact oz rfl (fun _ hK=>wp_load 43 (.tmp 9) rfl bk5 0 2 #[.bool tq.b,.slice tq.a tq.n tq.c] #[.bool tq.b,.slice tq.a tq.n tq.c] 43 (hJ.es.at' _ (zzG (i:=0) rfl)) (zet ((hev 9 (by decide)).trans rfl)) ag43 sz43 (zzF (by kernel_rfl)) (by kernel_rfl) (hK _ _ hJ rfl vsm))
      ·
       exact oz rfl (fun _ hK=>wp_fda (v:=.pointer (some ⟨bk1,0,none⟩)) 45 (.tmp 2) 0 rfl (zet ((hev 2 (by decide)).trans rfl)) (fun _=>by kernel_rfl) (hK _ _ hJ rfl vsm))
      ·
       exact oz rfl (fun _ hK=>wp_load1 (v:=p.v) 39 (.tmp 44) rfl bk1 0 #[p.v,s.v,.bool c.b,.slice c.a c.n c.c] 45 (hJ.get 5 (f:=Cf bk1 #[p.v,s.v,.bool c.b,.slice c.a c.n c.c] 45) rfl).1 (zj (hin 1 44 rfl) (show uu 1=.pointer (some ⟨bk1,0,none⟩) from (hd 1 (by kernel_rfl)))) ag39 (by kernel_rfl) (hK _ _ hJ rfl vsm))
      ·
       exact oz rfl (fun _ hK=>wp_move (.tmp 8) rfl (zet ((hev 8 (by decide)).trans rfl)) (hK _ _ hJ rfl vsm))
      ·
       exact oz rfl (fun _ hK=>wp_ixs 39 (.tmp 45) (.tmp 46) p i 1 40 rfl (zj (hin 2 45 rfl) (show uu 2=p.v from (hd 2 (by kernel_rfl)))) (zj (hin 3 46 rfl) (show uu 3=.int .i64 (((i:Nat):Int)) from (hd 3 (by kernel_rfl)))) (by kernel_rfl) sz40 (fun h=>((hJ.get 7 (f:=Mr (k+r) (fun _=>k+r) P p) rfl).sq.nil h).1) ((hJ.get 7 (f:=Mr (k+r) (fun _=>k+r) P p) rfl).n ▸ (by omega)) (hK _ _ hJ rfl vsm))
      ·
       exact oz rfl (fun _ hK=>wp_ldmr 40 (.tmp 47) p i (k+r) (fun _=>k+r) P rfl (zj (hin 4 47 rfl) (show uu 4=(p.at 1 i) from (hd 4 (by kernel_rfl)))) (hJ.get 7 (f:=Mr (k+r) (fun _=>k+r) P p) rfl) (by omega) ag40 (fun s3 hi_s3=>hK _ _ hJ ⟨s3,rfl,hi_s3⟩ vsm))
      ·
       exact oz rfl (fun _ hK=>wp_move (.tmp 5) rfl (zet ((hev 5 (by decide)).trans rfl)) (hK _ _ hJ rfl vsm))
      ·
       exact oz rfl (fun _ hK=>wp_move (.tmp 10) rfl (zet ((hev 10 (by decide)).trans rfl)) (hK _ _ hJ rfl vsm))
      ·
       exact oz rfl (fun _ hK=>wp_addi (.tmp 49) (.tmp 50) rfl (zj (hin 6 49 rfl) (show uu 6=.int .i64 (((k:Nat):Int)) from (hd 6 (by kernel_rfl)))) (zj (hin 7 50 rfl) (show uu 7=.int .i64 (((j:Nat):Int)) from (hd 7 (by kernel_rfl)))) (C:=((k+j:Nat):Int)) (by omega) (by omega) (by omega) (hK _ _ hJ rfl vsm))
      ·
       obtain ⟨s3,e5,hi_s3⟩:=(show (vlsr (k+r) (P i)) (uu 5) XR11 ww from (hd 5 (by kernel_rfl)))
       replace hJ:=hJ.more (f:=Lr (k+r) (P i) s3) (Lr.stb _ _ _) hi_s3
       exact oz rfl (fun _ hK=>wp_ixs 40 (.tmp 48) (.tmp 51) s3 (k+j) 2 43 rfl (zj (hin 5 48 rfl) e5) (zj (hin 8 51 rfl) (show uu 8=.int .i64 (((k+j:Nat):Int)) from (hd 8 (by kernel_rfl)))) (by kernel_rfl) sz43 (fun h=>((hJ.get 0 (f:=Lr (k+r) (P i) s3) rfl).sq.nil h).1) ((hJ.get 0 (f:=Lr (k+r) (P i) s3) rfl).n ▸ (by omega)) (hK _ _ (hJ.only [tq.ir,Fl 2 (ENr (wq k r P q y)) i Cs,Mr k (fun _=>k) P pg_6,q1.ir,Cf bk4 #[.bool q1.b,.slice q1.a q1.n q1.c] 43,Cf bk1 #[p.v,s.v,.bool c.b,.slice c.a c.n c.c] 45,c.ir,Mr (k+r) (fun _=>k+r) P p,Lr (k+r) q s,Lr r y ys] (by simp)) ⟨s3,rfl,hi_s3⟩ vsm))
      ·
       obtain ⟨s3,e9,hi_s3⟩:=(show (vatr (k+r) (P i) (k+j)) (uu 9) XR11 ww from (hd 9 (by kernel_rfl)))
       replace hJ:=hJ.more (f:=Lr (k+r) (P i) s3) (Lr.stb _ _ _) hi_s3
       exact oz rfl (fun _ hK=>wp_ldnr 43 (.tmp 52) s3 (k+j) (k+r) (P i) rfl (zj (hin 9 52 rfl) e9) (hJ.get 0 (f:=Lr (k+r) (P i) s3) rfl) (by omega) ag43 sz43 (fun q4 ez_q4 hi_q4=>hK _ _ (hJ.only [tq.ir,Fl 2 (ENr (wq k r P q y)) i Cs,Mr k (fun _=>k) P pg_6,q1.ir,Cf bk4 #[.bool q1.b,.slice q1.a q1.n q1.c] 43,Cf bk1 #[p.v,s.v,.bool c.b,.slice c.a c.n c.c] 45,c.ir,Mr (k+r) (fun _=>k+r) P p,Lr (k+r) q s,Lr r y ys] (by simp)) ⟨q4,rfl,ez_q4,hi_q4⟩ vsm))
      ·
       exact oz rfl (fun _ hK=>wp_move (.tmp 1) rfl (zet ((hev 1 (by decide)).trans rfl)) (hK _ _ hJ rfl vsm))
      ·
       exact oz rfl (fun _ hK=>wp_move (.tmp 10) rfl (zet ((hev 10 (by decide)).trans rfl)) (hK _ _ hJ rfl vsm))
      ·
       exact oz rfl (fun _ hK=>wp_ixs 40 (.tmp 54) (.tmp 55) ys j 2 43 rfl (zj (hin 11 54 rfl) (show uu 11=ys.v from (hd 11 (by kernel_rfl)))) (zj (hin 12 55 rfl) (show uu 12=.int .i64 (((j:Nat):Int)) from (hd 12 (by kernel_rfl)))) (by kernel_rfl) sz43 (fun h=>((hJ.get 9 (f:=Lr r y ys) rfl).sq.nil h).1) ((hJ.get 9 (f:=Lr r y ys) rfl).n ▸ (by omega)) (hK _ _ hJ rfl vsm))
      ·
       exact oz rfl (fun _ hK=>wp_ldnr 43 (.tmp 56) ys j r y rfl (zj (hin 13 56 rfl) (show uu 13=(ys.at 2 j) from (hd 13 (by kernel_rfl)))) (hJ.get 9 (f:=Lr r y ys) rfl) (by omega) ag43 sz43 (fun q5 ez_q5 hi_q5=>hK _ _ hJ ⟨q5,rfl,ez_q5,hi_q5⟩ vsm))
      ·
       obtain ⟨q4,e10,ez_q4,hi_q4⟩:=(show (vnumr (P i (k+j))) (uu 10) XR11 ww from (hd 10 (by kernel_rfl)))
       obtain ⟨q5,e14,ez_q5,hi_q5⟩:=(show (vnumr (y j)) (uu 14) XR11 ww from (hd 14 (by kernel_rfl)))
       replace hJ:=hJ.more (f:=q4.ir) q4.stbr hi_q4
       replace hJ:=hJ.more (f:=q5.ir) q5.stbr hi_q5
       refine oz rfl (fun _ hK=>zcz (.func 71) #[.tmp 53,.tmp 57] #[43,43] 71 #[] #[q4.v,q5.v] _ rfl rfl (map2 (zj (hin 10 53 rfl) e10) (zj (hin 14 57 rfl) e14)) rfl (fun _ _=>rfl) (zMulr hJ.nx (hJ.get 1 (f:=q4.ir) rfl) (hJ.get 0 (f:=q5.ir) rfl) ez_q4 ez_q5 ((fun u hu=>bP i u (by omega) hu) (k+j) (by omega)) (by_ j (by omega)) (by omega) (by omega)) ?_)
       rintro zz ww2 ⟨q6,rfl,ez_q6,hi_q6,hB⟩
       exact ⟨_,rfl,hK _ _ ((hJ.only [tq.ir,Fl 2 (ENr (wq k r P q y)) i Cs,Mr k (fun _=>k) P pg_6,q1.ir,Cf bk4 #[.bool q1.b,.slice q1.a q1.n q1.c] 43,Cf bk1 #[p.v,s.v,.bool c.b,.slice c.a c.n c.c] 45,c.ir,Mr (k+r) (fun _=>k+r) P p,Lr (k+r) q s,Lr r y ys] (by simp)).later hB) ⟨q6,rfl,ez_q6,hi_q6⟩ (vlat hB)⟩
      ·
       obtain ⟨q6,e15,ez_q6,hi_q6⟩:=(show (vnumr ((P i (k+j))*(y j))) (uu 15) XR11 ww from (hd 15 (by kernel_rfl)))
       replace hJ:=hJ.more (f:=q6.ir) q6.stbr hi_q6
       refine oz rfl (fun _ hK=>zcz (.func 57) #[.tmp 43,.tmp 58] #[43,43] 57 #[] #[tq.v,q6.v] _ rfl rfl (map2 (zj (hin 0 43 rfl) (show uu 0=tq.v from (hd 0 (by kernel_rfl)))) (zj (hin 15 58 rfl) e15)) rfl (fun _ _=>rfl) (dSub hJ.nx tq q6 (hJ.get 1 (f:=tq.ir) rfl) (hJ.get 0 (f:=q6.ir) rfl) ez_tq ez_q6 (qA_sz bP bq by_ (by omega) (by omega)) (Sz.mul ((fun u hu=>bP i u (by omega) hu) (k+j) (by omega)) (by_ j (by omega))) (by omega) (by omega)) ?_)
       rintro zz ww2 ⟨q7,rfl,ez_q7,hi_q7,hB⟩
       exact ⟨_,rfl,hK _ _ ((hJ.only [tq.ir,Fl 2 (ENr (wq k r P q y)) i Cs,Mr k (fun _=>k) P pg_6,q1.ir,Cf bk4 #[.bool q1.b,.slice q1.a q1.n q1.c] 43,Cf bk1 #[p.v,s.v,.bool c.b,.slice c.a c.n c.c] 45,c.ir,Mr (k+r) (fun _=>k+r) P p,Lr (k+r) q s,Lr r y ys] (by simp)).later hB) ⟨q7,rfl,ez_q7,hi_q7⟩ (vlat hB)⟩
     clear hZ24
     intro uu W10 hZ25 hd
     have e_0:uu 0=tq.v:=hd 0 (by decide)
     have e_1:uu 1=.pointer (some ⟨bk1,0,none⟩):=hd 1 (by decide)
     have e_2:uu 2=p.v:=hd 2 (by decide)
     have e_3:uu 3=.int .i64 (((i:Nat):Int)):=hd 3 (by decide)
     have e_4:uu 4=(p.at 1 i):=hd 4 (by decide)
     obtain ⟨s3,e_5,hi_s3⟩:=(show (vlsr (k+r) (P i)) (uu 5) XR11 W10 from hd 5 (by decide))
     have e_6:uu 6=.int .i64 (((k:Nat):Int)):=hd 6 (by decide)
     have e_7:uu 7=.int .i64 (((j:Nat):Int)):=hd 7 (by decide)
     have e_8:uu 8=.int .i64 (((k+j:Nat):Int)):=hd 8 (by decide)
     obtain ⟨s3_9,e_9,hi_s3_9⟩:=(show (vatr (k+r) (P i) (k+j)) (uu 9) XR11 W10 from hd 9 (by decide))
     obtain ⟨q4,e_10,ez_q4,hi_q4⟩:=(show (vnumr (P i (k+j))) (uu 10) XR11 W10 from hd 10 (by decide))
     have e_11:uu 11=ys.v:=hd 11 (by decide)
     have e_12:uu 12=.int .i64 (((j:Nat):Int)):=hd 12 (by decide)
     have e_13:uu 13=(ys.at 2 j):=hd 13 (by decide)
     obtain ⟨q5,e_14,ez_q5,hi_q5⟩:=(show (vnumr (y j)) (uu 14) XR11 W10 from hd 14 (by decide))
     obtain ⟨q6,e_15,ez_q6,hi_q6⟩:=(show (vnumr ((P i (k+j))*(y j))) (uu 15) XR11 W10 from hd 15 (by decide))
     obtain ⟨q7,e_16,ez_q7,hi_q7⟩:=(show (vnumr ((qA k P q y i j) - ((P i (k+j))*(y j)))) (uu 16) XR11 W10 from hd 16 (by decide))
     clear hd
     simp only [layS,Act.put,zzC,zzD,zzE,Nat.zero_add,Nat.reduceAdd,List.drop_succ_cons,List.drop_zero,List.drop_nil,e_0,e_1,e_2,e_3,e_4,e_5,e_6,e_7,e_8,e_9,e_10,e_11,e_12,e_13,e_14,e_15,e_16]
     clear e_0 e_1 e_2 e_3 e_4 e_5 e_6 e_7 e_8 e_9 e_10 e_11 e_12 e_13 e_14 e_15 e_16
     have hZ26:=hZ25.more (f:=Lr (k+r) (P i) s3) (Lr.stb _ _ _) hi_s3
     clear hZ25 hi_s3
     have hZ27:=hZ26.more (f:=Lr (k+r) (P i) s3_9) (Lr.stb _ _ _) hi_s3_9
     clear hZ26 hi_s3_9
     have hZ28:=hZ27.more (f:=q4.ir) q4.stbr hi_q4
     clear hZ27 hi_q4
     have hZ29:=hZ28.more (f:=q5.ir) q5.stbr hi_q5
     clear hZ28 hi_q5
     have hZ30:=hZ29.more (f:=q6.ir) q6.stbr hi_q6
     clear hZ29 hi_q6
     have hZ31:=hZ30.more (f:=q7.ir) q7.stbr hi_q7
     clear hZ30 hi_q7
     go_wp2_with (refine zss 43 (.tmp 9) (.tmp 59) 0 bk5 0 #[.bool tq.b,.slice tq.a tq.n tq.c] 43 2 [.bool q7.b,.slice q7.a q7.n q7.c] #[.bool q7.b,.slice q7.a q7.n q7.c] ([(bk5,#[.bool q7.b,.slice q7.a q7.n q7.c],43),(bk3,#[pg_6.v,so.v,.bool c.b,.slice c.a c.n c.c],45),(bk2,#[.slice none 0 0,.slice none 0 0,.bool false,.slice none 0 0],45)]++owl so Cs 43) rfl rfl rfl rfl sz43 hZ31 rfl rfl (zzF (by kernel_rfl)) (by kernel_rfl) (by kernel_rfl) (by kernel_rfl) (fun W11 hZ32=>?_))
     clear hZ31
     simp only [Stop,Act.put,zzC,zzD,zzE]
     have hZ33:=hZ32.only [q7.ir,Fl 2 (ENr (wq k r P q y)) i Cs,Mr k (fun _=>k) P pg_6,q1.ir,Cf bk4 #[.bool q1.b,.slice q1.a q1.n q1.c] 43,Cf bk1 #[p.v,s.v,.bool c.b,.slice c.a c.n c.c] 45,c.ir,Mr (k+r) (fun _=>k+r) P p,Lr (k+r) q s,Lr r y ys] (by simp)
     clear hZ32
     go_wp2_with (refine zso rfl (fun K hK=>wp_addi (.tmp 41) (.const (.int .i64 1)) rfl rfl rfl (C:=((j+1:Nat):Int)) (by omega) (by omega) (by omega) (hK _ _ ?_)))
     simp only [Stop,Act.put,zzC,zzD,zzE]
     go_wp2
     go_roundw
     case rel=>exact ⟨j+1,q7,_,by omega,by go_num,ez_q7.trans qA_step,hZ33⟩
     case measure=>simp [intOf]; omega
    ·
     obtain rfl:r=j:=by omega
     go_wp2_with (refine zso rfl (fun K hK=>wp_lenq (.tmp 38) 40 43 ys rfl (by kernel_rfl) rfl (hZ2.get 9 (f:=Lr r y ys) rfl).n (hK _ _ ?_)))
     simp only [Stop,Act.put,zzC,zzD,zzE]
     go_wp2_with (refine zso rfl (fun K hK=>wp_lssi (.tmp 37) (.tmp 39) rfl rfl rfl (r:=false) (decide_eq_false (Int.lt_irrefl _)) (hK _ _ ?_)))
     simp only [Stop,Act.put,zzC,zzD,zzE]
     go_wp2_with (refine zso rfl (fun K hK=>wp_fda (v:=.pointer (some ⟨bk3,1,none⟩)) 45 (.tmp 6) 1 rfl rfl (fun _=>by kernel_rfl) (hK _ _ ?_)))
     simp only [Stop,Act.put,zzC,zzD,zzE]
     go_wp2_with (refine zso rfl (fun K hK=>wp_load1 (v:=so.v) 40 (.tmp 60) rfl bk3 1 #[pg_6.v,so.v,.bool c.b,.slice c.a c.n c.c] 45 (hZ2.es.at' _ (zzG (i:=1) rfl)) rfl ag40 (by kernel_rfl) (hK _ _ ?_)))
     simp only [Stop,Act.put,zzC,zzD,zzE]
     go_wp2_with (refine zso rfl (fun K hK=>wp_load 43 (.tmp 9) rfl bk5 0 2 #[.bool tq.b,.slice tq.a tq.n tq.c] #[.bool tq.b,.slice tq.a tq.n tq.c] 43 (hZ2.es.at' _ (zzG (i:=0) rfl)) rfl ag43 sz43 (zzF (by kernel_rfl)) (by kernel_rfl) (hK _ _ ?_)))
     simp only [Stop,Act.put,zzC,zzD,zzE]
     go_wp2_with (refine zso rfl (fun K hK=>wp_bsnr ei40 (.tmp 62) tq rfl rfl hZ2 (hZ2.get 0 (f:=tq.ir) rfl) (fun s8 W12 _ hZ34=>hK _ _ ?_)))
     simp only [Stop,Act.put,zzC,zzD,zzE]
     clear hZ2
     have hZ35:=(hZ34.more (f:=Lr 1 (fun _=>qA k P q y i r) s8) (Lr.stb _ _ _) (hZ34.get 0 (f:=Lr 1 (fun _=>tq.z) s8) rfl |>.congr (fun _ _=>ez_tq))).only [Lr 1 (fun _=>qA k P q y i r) s8,tq.ir,Fl 2 (ENr (wq k r P q y)) i Cs,Mr k (fun _=>k) P pg_6,q1.ir,Cf bk4 #[.bool q1.b,.slice q1.a q1.n q1.c] 43,Cf bk1 #[p.v,s.v,.bool c.b,.slice c.a c.n c.c] 45,c.ir,Mr (k+r) (fun _=>k+r) P p,Lr (k+r) q s,Lr r y ys] (by simp)
     clear hZ34
     obtain ⟨qa9,q9,ea9,ez_q9,hi_q9,hca9⟩:=Lr.one (hZ35.get 0 (f:=Lr 1 (fun _=>qA k P q y i r) s8) rfl)
     have EA9:=Lib.hid ea9
     clear ea9
     have hZ36w:=hZ35.more (f:=q9.ir) q9.stbr hi_q9
     have hZ36y:=hZ36w.perm List.perm_append_comm
     clear hZ36w hi_q9
     go_wp2_with (refine zso rfl (fun K hK=>wp_app ei40 (.tmp 61) (.tmp 63) rfl (s:=so) rfl qa9 s8.c EA9.out hw_so (by rw [hn_so]; omega) hZ36y [.bool q9.b,.slice q9.a q9.n q9.c] rfl hca9 (fun u hu=>by simp only [List.mem_cons,List.not_mem_nil,or_false] at hu; rcases hu with rfl | rfl <;> rfl) (fun o9 C9 X36 W13 hn_o9 hw_o9 ho_C9 hg_C9 hZ36x=>hK _ _ ?_)))
     simp only [Stop,Act.put,zzC,zzD,zzE]
     clear hZ36y hca9 EA9
     rw [hn_so] at hn_o9 ho_C9 hg_C9
     have hZ36:=hZ36x.perm List.perm_append_comm
     clear hZ36x hZ35
     go_wp2_with (refine zso rfl (fun K hK=>wp_fda (v:=.pointer (some ⟨bk3,1,none⟩)) 45 (.tmp 6) 1 rfl rfl (fun _=>by kernel_rfl) (hK _ _ ?_)))
     simp only [Stop,Act.put,zzC,zzD,zzE]
     go_wp2_with (refine zss 40 (.tmp 65) (.tmp 64) 1 bk3 1 #[pg_6.v,so.v,.bool c.b,.slice c.a c.n c.c] 45 1 [o9.v] #[pg_6.v,o9.v,.bool c.b,.slice c.a c.n c.c] ([(bk5,#[.bool tq.b,.slice tq.a tq.n tq.c],43),(bk3,#[pg_6.v,o9.v,.bool c.b,.slice c.a c.n c.c],45),(bk2,#[.slice none 0 0,.slice none 0 0,.bool false,.slice none 0 0],45)]++owl o9 C9 43) rfl rfl rfl rfl sz40 hZ36 rfl rfl (zzF (by kernel_rfl)) (by kernel_rfl) (by kernel_rfl) (by kernel_rfl) (fun W14 hZ37=>?_))
     clear hZ36
     simp only [Stop,Act.put,zzC,zzD,zzE]
     have hZ38:=hZ37.release hX
     clear hZ37
     have hZ39s:Fl 2 (ENr (wq k r P q y)) (i+1) C9 _ W14:=Fl.snoc (C:=Cs) (hZ38.get 4 (f:=Fl 2 (ENr (wq k r P q y)) i Cs) rfl) (cs:=[.bool q9.b,.slice q9.a q9.n q9.c]) rfl ho_C9 hg_C9 ⟨q9,ez_q9.trans (by first | rfl | exact ez_tq),(hZ38.get 1 (f:=q9.ir) rfl),rfl⟩
     have hZ39:=(hZ38.more (Fl.stb (ENr.stb _) _ _) hZ39s).only [Fl 2 (ENr (wq k r P q y)) (i+1) C9,Mr k (fun _=>k) P pg_6,q1.ir,Cf bk4 #[.bool q1.b,.slice q1.a q1.n q1.c] 43,Cf bk1 #[p.v,s.v,.bool c.b,.slice c.a c.n c.c] 45,c.ir,Mr (k+r) (fun _=>k+r) P p,Lr (k+r) q s,Lr r y ys] (by simp)
     clear hZ38 hZ39s
     go_wp2_with (refine zso rfl (fun K hK=>wp_addi (.tmp 30) (.const (.int .i64 1)) rfl rfl rfl (C:=((i+1:Nat):Int)) (by omega) (by omega) (by omega) (hK _ _ ?_)))
     simp only [Stop,Act.put,zzC,zzD,zzE]
     go_wp2
     go_roundw
     case rel=>exact ⟨i+1,o9,C9,_,by omega,by go_num,hn_o9,hw_o9,hZ39⟩
     case measure=>simp [intOf]; omega
  ·
   obtain rfl:k=i:=by omega
   go_wp2_with (refine zso rfl (fun K hK=>wp_lssi (.tmp 27) (.tmp 28) rfl rfl rfl (r:=false) (decide_eq_false (Int.lt_irrefl _)) (hK _ _ ?_)))
   simp only [Stop,Act.put,zzC,zzD,zzE]
   obtain ⟨XT,hZ40⟩:=Zs.tellr (hZ.perm List.perm_append_comm) hX hw_so hn_so (hZ.get 0 (f:=Fl 2 (ENr (wq k r P q y)) k Cs) rfl)
   clear hZ
   have hZ41:=hZ40.only [c.ir,Lr k (wq k r P q y) so,Mr k (fun _=>k) P pg_6,q1.ir,Cf bk4 #[.bool q1.b,.slice q1.a q1.n q1.c] 43,Cf bk1 #[p.v,s.v,.bool c.b,.slice c.a c.n c.c] 45,Mr (k+r) (fun _=>k+r) P p,Lr (k+r) q s,Lr r y ys] (by simp)
   clear hZ40
   go_wp2
   obtain ⟨wo,rfl⟩:∃ wo:World,wo=wr:=⟨_,rfl⟩
   go_wp2
   go_loopw [11] (fun iv wr=>∃ (i:Nat) (tc:NL) (X:Nat→Prop),i≤r∧iv=.int .i64 ((i:Nat):Int)∧tc.z=cA k r P q C y i∧Zs w wr X0 X [(bk3,#[pg_6.v,so.v,.bool tc.b,.slice tc.a tc.n tc.c],45),(bk2,#[.slice none 0 0,.slice none 0 0,.bool false,.slice none 0 0],45)] [tc.ir,Lr k (wq k r P q y) so,Mr k (fun _=>k) P pg_6,q1.ir,Cf bk4 #[.bool q1.b,.slice q1.a q1.n q1.c] 43,Cf bk1 #[p.v,s.v,.bool c.b,.slice c.a c.n c.c] 45,Mr (k+r) (fun _=>k+r) P p,Lr (k+r) q s,Lr r y ys]) (fun iv _=>r - (intOf iv).toNat)
   case atStart=>exact ⟨0,c,_,by omega,rfl,ez_c.trans cA_0,hZ41⟩
   case round =>
    clear hZ41
    obtain ⟨i,tc,X3,hi3,rfl,ez_tc,hZ3⟩:=hrel
    by_cases hlt3:i < r
    ·
     go_wp2_with (refine zso rfl (fun K hK=>wp_lenq (.tmp 67) 40 43 ys rfl (by kernel_rfl) rfl (hZ3.get 8 (f:=Lr r y ys) rfl).n (hK _ _ ?_)))
     simp only [Stop,Act.put,zzC,zzD,zzE]
     go_wp2_with (refine zso rfl (fun K hK=>wp_lssi (.tmp 66) (.tmp 68) rfl rfl rfl (r:=true) (decide_eq_true (by omega)) (hK _ _ ?_)))
     simp only [Stop,Act.put,zzC,zzD,zzE]
     go_wp2
     obtain ⟨XR16,hZ42⟩:∃ Xr,Zs w wr X0 Xr [(bk3,#[pg_6.v,so.v,.bool tc.b,.slice tc.a tc.n tc.c],45),(bk2,#[.slice none 0 0,.slice none 0 0,.bool false,.slice none 0 0],45)] [tc.ir,Lr k (wq k r P q y) so,Mr k (fun _=>k) P pg_6,q1.ir,Cf bk4 #[.bool q1.b,.slice q1.a q1.n q1.c] 43,Cf bk1 #[p.v,s.v,.bool c.b,.slice c.a c.n c.c] 45,Mr (k+r) (fun _=>k+r) P p,Lr (k+r) q s,Lr r y ys]:=⟨_,hZ3⟩
     clear hZ3
     refine zrq 17 [some 72,some 73,some 74,some 75,some 76,some 77,some 78,some 79,some 80,some 81,some 82,some 83,some 84,some 85,some 86,some 87,some 88] [veq (.pointer (some ⟨bk3,2,none⟩)),veq (tc.v),veq (q1.v),veq (.pointer (some ⟨bk1,1,none⟩)),veq (s.v),veq (.int .i64 (((k:Nat):Int))),veq (.int .i64 (((i:Nat):Int))),veq (.int .i64 (((k+i:Nat):Int))),veq ((s.at 2 (k+i))),vnumr (q (k+i)),vnumr (2*(q (k+i))),veq (ys.v),veq (.int .i64 (((i:Nat):Int))),veq ((ys.at 2 i)),vnumr (y i),vnumr ((2*(q (k+i)))*(y i)),vnumr ((cA k r P q C y i) - ((2*(q (k+i)))*(y i)))] (by kernel_rfl) (by kernel_rfl) (by rfl) (by decide) (by rfl) hZ42 ?_ ?_
     ·
      intro iq hlq hiq LL uu ww aa hLi hLc hJ hd hall hev hin hold
      clear hZ42
      obtain rfl | rfl | rfl | rfl | rfl | rfl | rfl | rfl | rfl | rfl | rfl | rfl | rfl | rfl | rfl | rfl | rfl:iq=0∨iq=1∨iq=2∨iq=3∨iq=4∨iq=5∨iq=6∨iq=7∨iq=8∨iq=9∨iq=10∨iq=11∨iq=12∨iq=13∨iq=14∨iq=15∨iq=16:=by omega
      ·
       exact oz rfl (fun _ hK=>wp_fda (v:=.pointer (some ⟨bk3,2,none⟩)) 45 (.tmp 6) 2 rfl (zet ((hev 6 (by decide)).trans rfl)) (fun _=>by kernel_rfl) (hK _ _ hJ rfl vsm))
      ·
       exact oz rfl (fun _ hK=>wp_load 43 (.tmp 72) rfl bk3 2 2 #[pg_6.v,so.v,.bool tc.b,.slice tc.a tc.n tc.c] #[.bool tc.b,.slice tc.a tc.n tc.c] 45 (hJ.es.at' _ (zzG (i:=0) rfl)) (zj (hin 0 72 rfl) (show uu 0=.pointer (some ⟨bk3,2,none⟩) from (hd 0 (by kernel_rfl)))) ag43 sz43 (zzF (by kernel_rfl)) (by kernel_rfl) (hK _ _ hJ rfl vsm))
      ·
       exact oz rfl (fun _ hK=>wp_load 43 (.tmp 7) rfl bk4 0 2 #[.bool q1.b,.slice q1.a q1.n q1.c] #[.bool q1.b,.slice q1.a q1.n q1.c] 43 (hJ.get 4 (f:=Cf bk4 #[.bool q1.b,.slice q1.a q1.n q1.c] 43) rfl).1 (zet ((hev 7 (by decide)).trans rfl)) ag43 sz43 (zzF (by kernel_rfl)) (by kernel_rfl) (hK _ _ hJ rfl vsm))
      ·
       exact oz rfl (fun _ hK=>wp_fda (v:=.pointer (some ⟨bk1,1,none⟩)) 45 (.tmp 2) 1 rfl (zet ((hev 2 (by decide)).trans rfl)) (fun _=>by kernel_rfl) (hK _ _ hJ rfl vsm))
      ·
       exact oz rfl (fun _ hK=>wp_load1 (v:=s.v) 40 (.tmp 75) rfl bk1 1 #[p.v,s.v,.bool c.b,.slice c.a c.n c.c] 45 (hJ.get 5 (f:=Cf bk1 #[p.v,s.v,.bool c.b,.slice c.a c.n c.c] 45) rfl).1 (zj (hin 3 75 rfl) (show uu 3=.pointer (some ⟨bk1,1,none⟩) from (hd 3 (by kernel_rfl)))) ag40 (by kernel_rfl) (hK _ _ hJ rfl vsm))
      ·
       exact oz rfl (fun _ hK=>wp_move (.tmp 5) rfl (zet ((hev 5 (by decide)).trans rfl)) (hK _ _ hJ rfl vsm))
      ·
       exact oz rfl (fun _ hK=>wp_move (.tmp 11) rfl (zet ((hev 11 (by decide)).trans rfl)) (hK _ _ hJ rfl vsm))
      ·
       exact oz rfl (fun _ hK=>wp_addi (.tmp 77) (.tmp 78) rfl (zj (hin 5 77 rfl) (show uu 5=.int .i64 (((k:Nat):Int)) from (hd 5 (by kernel_rfl)))) (zj (hin 6 78 rfl) (show uu 6=.int .i64 (((i:Nat):Int)) from (hd 6 (by kernel_rfl)))) (C:=((k+i:Nat):Int)) (by omega) (by omega) (by omega) (hK _ _ hJ rfl vsm))
      ·
       exact oz rfl (fun _ hK=>wp_ixs 40 (.tmp 76) (.tmp 79) s (k+i) 2 43 rfl (zj (hin 4 76 rfl) (show uu 4=s.v from (hd 4 (by kernel_rfl)))) (zj (hin 7 79 rfl) (show uu 7=.int .i64 (((k+i:Nat):Int)) from (hd 7 (by kernel_rfl)))) (by kernel_rfl) sz43 (fun h=>((hJ.get 7 (f:=Lr (k+r) q s) rfl).sq.nil h).1) ((hJ.get 7 (f:=Lr (k+r) q s) rfl).n ▸ (by omega)) (hK _ _ hJ rfl vsm))
      ·
       exact oz rfl (fun _ hK=>wp_ldnr 43 (.tmp 80) s (k+i) (k+r) q rfl (zj (hin 8 80 rfl) (show uu 8=(s.at 2 (k+i)) from (hd 8 (by kernel_rfl)))) (hJ.get 7 (f:=Lr (k+r) q s) rfl) (by omega) ag43 sz43 (fun q10 ez_q10 hi_q10=>hK _ _ hJ ⟨q10,rfl,ez_q10,hi_q10⟩ vsm))
      ·
       obtain ⟨q10,e9,ez_q10,hi_q10⟩:=(show (vnumr (q (k+i))) (uu 9) XR16 ww from (hd 9 (by kernel_rfl)))
       replace hJ:=hJ.more (f:=q10.ir) q10.stbr hi_q10
       refine oz rfl (fun _ hK=>zcz (.func 71) #[.tmp 74,.tmp 81] #[43,43] 71 #[] #[q1.v,q10.v] _ rfl rfl (map2 (zj (hin 2 74 rfl) (show uu 2=q1.v from (hd 2 (by kernel_rfl)))) (zj (hin 9 81 rfl) e9)) rfl (fun _ _=>rfl) (zMulr hJ.nx (hJ.get 4 (f:=q1.ir) rfl) (hJ.get 0 (f:=q10.ir) rfl) ez_q1 ez_q10 (sz_int (by decide) (by decide)) (bq (k+i) (by omega)) (by omega) (by omega)) ?_)
       rintro zz ww2 ⟨q11,rfl,ez_q11,hi_q11,hB⟩
       exact ⟨_,rfl,hK _ _ ((hJ.only [tc.ir,Lr k (wq k r P q y) so,Mr k (fun _=>k) P pg_6,q1.ir,Cf bk4 #[.bool q1.b,.slice q1.a q1.n q1.c] 43,Cf bk1 #[p.v,s.v,.bool c.b,.slice c.a c.n c.c] 45,Mr (k+r) (fun _=>k+r) P p,Lr (k+r) q s,Lr r y ys] (by simp)).later hB) ⟨q11,rfl,ez_q11,hi_q11⟩ (vlat hB)⟩
      ·
       exact oz rfl (fun _ hK=>wp_move (.tmp 1) rfl (zet ((hev 1 (by decide)).trans rfl)) (hK _ _ hJ rfl vsm))
      ·
       exact oz rfl (fun _ hK=>wp_move (.tmp 11) rfl (zet ((hev 11 (by decide)).trans rfl)) (hK _ _ hJ rfl vsm))
      ·
       exact oz rfl (fun _ hK=>wp_ixs 40 (.tmp 83) (.tmp 84) ys i 2 43 rfl (zj (hin 11 83 rfl) (show uu 11=ys.v from (hd 11 (by kernel_rfl)))) (zj (hin 12 84 rfl) (show uu 12=.int .i64 (((i:Nat):Int)) from (hd 12 (by kernel_rfl)))) (by kernel_rfl) sz43 (fun h=>((hJ.get 8 (f:=Lr r y ys) rfl).sq.nil h).1) ((hJ.get 8 (f:=Lr r y ys) rfl).n ▸ (by omega)) (hK _ _ hJ rfl vsm))
      ·
       exact oz rfl (fun _ hK=>wp_ldnr 43 (.tmp 85) ys i r y rfl (zj (hin 13 85 rfl) (show uu 13=(ys.at 2 i) from (hd 13 (by kernel_rfl)))) (hJ.get 8 (f:=Lr r y ys) rfl) (by omega) ag43 sz43 (fun q12 ez_q12 hi_q12=>hK _ _ hJ ⟨q12,rfl,ez_q12,hi_q12⟩ vsm))
      ·
       obtain ⟨q11,e10,ez_q11,hi_q11⟩:=(show (vnumr (2*(q (k+i)))) (uu 10) XR16 ww from (hd 10 (by kernel_rfl)))
       obtain ⟨q12,e14,ez_q12,hi_q12⟩:=(show (vnumr (y i)) (uu 14) XR16 ww from (hd 14 (by kernel_rfl)))
       replace hJ:=hJ.more (f:=q11.ir) q11.stbr hi_q11
       replace hJ:=hJ.more (f:=q12.ir) q12.stbr hi_q12
       refine oz rfl (fun _ hK=>zcz (.func 71) #[.tmp 82,.tmp 86] #[43,43] 71 #[] #[q11.v,q12.v] _ rfl rfl (map2 (zj (hin 10 82 rfl) e10) (zj (hin 14 86 rfl) e14)) rfl (fun _ _=>rfl) (zMulr hJ.nx (hJ.get 1 (f:=q11.ir) rfl) (hJ.get 0 (f:=q12.ir) rfl) ez_q11 ez_q12 (Sz.mul (sz_int (by decide) (by decide)) (bq (k+i) (by omega))) (by_ i (by omega)) (by omega) (by omega)) ?_)
       rintro zz ww2 ⟨q13,rfl,ez_q13,hi_q13,hB⟩
       exact ⟨_,rfl,hK _ _ ((hJ.only [tc.ir,Lr k (wq k r P q y) so,Mr k (fun _=>k) P pg_6,q1.ir,Cf bk4 #[.bool q1.b,.slice q1.a q1.n q1.c] 43,Cf bk1 #[p.v,s.v,.bool c.b,.slice c.a c.n c.c] 45,Mr (k+r) (fun _=>k+r) P p,Lr (k+r) q s,Lr r y ys] (by simp)).later hB) ⟨q13,rfl,ez_q13,hi_q13⟩ (vlat hB)⟩
      ·
       obtain ⟨q13,e15,ez_q13,hi_q13⟩:=(show (vnumr ((2*(q (k+i)))*(y i))) (uu 15) XR16 ww from (hd 15 (by kernel_rfl)))
       replace hJ:=hJ.more (f:=q13.ir) q13.stbr hi_q13
       refine oz rfl (fun _ hK=>zcz (.func 57) #[.tmp 73,.tmp 87] #[43,43] 57 #[] #[tc.v,q13.v] _ rfl rfl (map2 (zj (hin 1 73 rfl) (show uu 1=tc.v from (hd 1 (by kernel_rfl)))) (zj (hin 15 87 rfl) e15)) rfl (fun _ _=>rfl) (dSub hJ.nx tc q13 (hJ.get 1 (f:=tc.ir) rfl) (hJ.get 0 (f:=q13.ir) rfl) ez_tc ez_q13 (cA_sz bP bq bC by_ he hkr (by omega)) (Sz.mul (Sz.mul (sz_int (by decide) (by decide)) (bq (k+i) (by omega))) (by_ i (by omega))) (by omega) (by omega)) ?_)
       rintro zz ww2 ⟨q14,rfl,ez_q14,hi_q14,hB⟩
       exact ⟨_,rfl,hK _ _ ((hJ.only [tc.ir,Lr k (wq k r P q y) so,Mr k (fun _=>k) P pg_6,q1.ir,Cf bk4 #[.bool q1.b,.slice q1.a q1.n q1.c] 43,Cf bk1 #[p.v,s.v,.bool c.b,.slice c.a c.n c.c] 45,Mr (k+r) (fun _=>k+r) P p,Lr (k+r) q s,Lr r y ys] (by simp)).later hB) ⟨q14,rfl,ez_q14,hi_q14⟩ (vlat hB)⟩
     clear hZ42
     intro uu W15 hZ43 hd
     have e_0:uu 0=.pointer (some ⟨bk3,2,none⟩):=hd 0 (by decide)
     have e_1:uu 1=tc.v:=hd 1 (by decide)
     have e_2:uu 2=q1.v:=hd 2 (by decide)
     have e_3:uu 3=.pointer (some ⟨bk1,1,none⟩):=hd 3 (by decide)
     have e_4:uu 4=s.v:=hd 4 (by decide)
     have e_5:uu 5=.int .i64 (((k:Nat):Int)):=hd 5 (by decide)
     have e_6:uu 6=.int .i64 (((i:Nat):Int)):=hd 6 (by decide)
     have e_7:uu 7=.int .i64 (((k+i:Nat):Int)):=hd 7 (by decide)
     have e_8:uu 8=(s.at 2 (k+i)):=hd 8 (by decide)
     obtain ⟨q10,e_9,ez_q10,hi_q10⟩:=(show (vnumr (q (k+i))) (uu 9) XR16 W15 from hd 9 (by decide))
     obtain ⟨q11,e_10,ez_q11,hi_q11⟩:=(show (vnumr (2*(q (k+i)))) (uu 10) XR16 W15 from hd 10 (by decide))
     have e_11:uu 11=ys.v:=hd 11 (by decide)
     have e_12:uu 12=.int .i64 (((i:Nat):Int)):=hd 12 (by decide)
     have e_13:uu 13=(ys.at 2 i):=hd 13 (by decide)
     obtain ⟨q12,e_14,ez_q12,hi_q12⟩:=(show (vnumr (y i)) (uu 14) XR16 W15 from hd 14 (by decide))
     obtain ⟨q13,e_15,ez_q13,hi_q13⟩:=(show (vnumr ((2*(q (k+i)))*(y i))) (uu 15) XR16 W15 from hd 15 (by decide))
     obtain ⟨q14,e_16,ez_q14,hi_q14⟩:=(show (vnumr ((cA k r P q C y i) - ((2*(q (k+i)))*(y i)))) (uu 16) XR16 W15 from hd 16 (by decide))
     clear hd
     simp only [layS,Act.put,zzC,zzD,zzE,Nat.zero_add,Nat.reduceAdd,List.drop_succ_cons,List.drop_zero,List.drop_nil,e_0,e_1,e_2,e_3,e_4,e_5,e_6,e_7,e_8,e_9,e_10,e_11,e_12,e_13,e_14,e_15,e_16]
     clear e_0 e_1 e_2 e_3 e_4 e_5 e_6 e_7 e_8 e_9 e_10 e_11 e_12 e_13 e_14 e_15 e_16
     have hZ44:=hZ43.more (f:=q10.ir) q10.stbr hi_q10
     clear hZ43 hi_q10
     have hZ45:=hZ44.more (f:=q11.ir) q11.stbr hi_q11
     clear hZ44 hi_q11
     have hZ46:=hZ45.more (f:=q12.ir) q12.stbr hi_q12
     clear hZ45 hi_q12
     have hZ47:=hZ46.more (f:=q13.ir) q13.stbr hi_q13
     clear hZ46 hi_q13
     have hZ48:=hZ47.more (f:=q14.ir) q14.stbr hi_q14
     clear hZ47 hi_q14
     go_wp2_with (refine zso rfl (fun K hK=>wp_fda (v:=.pointer (some ⟨bk3,2,none⟩)) 45 (.tmp 6) 2 rfl rfl (fun _=>by kernel_rfl) (hK _ _ ?_)))
     simp only [Stop,Act.put,zzC,zzD,zzE]
     go_wp2_with (refine zss 43 (.tmp 89) (.tmp 88) 0 bk3 2 #[pg_6.v,so.v,.bool tc.b,.slice tc.a tc.n tc.c] 45 2 [.bool q14.b,.slice q14.a q14.n q14.c] #[pg_6.v,so.v,.bool q14.b,.slice q14.a q14.n q14.c] [(bk3,#[pg_6.v,so.v,.bool q14.b,.slice q14.a q14.n q14.c],45),(bk2,#[.slice none 0 0,.slice none 0 0,.bool false,.slice none 0 0],45)] rfl rfl rfl rfl sz43 hZ48 rfl rfl (zzF (by kernel_rfl)) (by kernel_rfl) (by kernel_rfl) (by kernel_rfl) (fun W16 hZ49=>?_))
     clear hZ48
     simp only [Stop,Act.put,zzC,zzD,zzE]
     have hZ50:=hZ49.only [q14.ir,Lr k (wq k r P q y) so,Mr k (fun _=>k) P pg_6,q1.ir,Cf bk4 #[.bool q1.b,.slice q1.a q1.n q1.c] 43,Cf bk1 #[p.v,s.v,.bool c.b,.slice c.a c.n c.c] 45,Mr (k+r) (fun _=>k+r) P p,Lr (k+r) q s,Lr r y ys] (by simp)
     clear hZ49
     go_wp2
     obtain ⟨wo,rfl⟩:∃ wo:World,wo=W16:=⟨_,rfl⟩
     go_wp2
     go_loopw [12] (fun jv wr=>∃ (j:Nat) (td:NL) (X:Nat→Prop),j≤r∧jv=.int .i64 ((j:Nat):Int)∧td.z=cB k r P q C y i j∧Zs w wr X0 X [(bk3,#[pg_6.v,so.v,.bool td.b,.slice td.a td.n td.c],45),(bk2,#[.slice none 0 0,.slice none 0 0,.bool false,.slice none 0 0],45)] [td.ir,Lr k (wq k r P q y) so,Mr k (fun _=>k) P pg_6,q1.ir,Cf bk4 #[.bool q1.b,.slice q1.a q1.n q1.c] 43,Cf bk1 #[p.v,s.v,.bool c.b,.slice c.a c.n c.c] 45,Mr (k+r) (fun _=>k+r) P p,Lr (k+r) q s,Lr r y ys]) (fun jv _=>r - (intOf jv).toNat)
     case atStart=>exact ⟨0,q14,_,by omega,rfl,ez_q14.trans cB_0,hZ50⟩
     case round =>
      clear hZ50
      obtain ⟨j,td,X4,hj4,rfl,ez_td,hZ4⟩:=hrel
      by_cases hlt4:j < r
      ·
       go_wp2_with (refine zso rfl (fun K hK=>wp_lenq (.tmp 91) 40 43 ys rfl (by kernel_rfl) rfl (hZ4.get 8 (f:=Lr r y ys) rfl).n (hK _ _ ?_)))
       simp only [Stop,Act.put,zzC,zzD,zzE]
       go_wp2_with (refine zso rfl (fun K hK=>wp_lssi (.tmp 90) (.tmp 92) rfl rfl rfl (r:=true) (decide_eq_true (by omega)) (hK _ _ ?_)))
       simp only [Stop,Act.put,zzC,zzD,zzE]
       go_wp2
       obtain ⟨XR20,hZ51⟩:∃ Xr,Zs w wr X0 Xr [(bk3,#[pg_6.v,so.v,.bool td.b,.slice td.a td.n td.c],45),(bk2,#[.slice none 0 0,.slice none 0 0,.bool false,.slice none 0 0],45)] [td.ir,Lr k (wq k r P q y) so,Mr k (fun _=>k) P pg_6,q1.ir,Cf bk4 #[.bool q1.b,.slice q1.a q1.n q1.c] 43,Cf bk1 #[p.v,s.v,.bool c.b,.slice c.a c.n c.c] 45,Mr (k+r) (fun _=>k+r) P p,Lr (k+r) q s,Lr r y ys]:=⟨_,hZ4⟩
       clear hZ4
       refine zrq 25 [some 96,some 97,some 98,some 99,some 100,some 101,some 102,some 103,some 104,some 105,some 106,some 107,some 108,some 109,some 110,some 111,some 112,some 113,some 114,some 115,some 116,some 117,some 118,some 119,some 120] [veq (.pointer (some ⟨bk3,2,none⟩)),veq (td.v),veq (.pointer (some ⟨bk1,0,none⟩)),veq (p.v),veq (.int .i64 (((k:Nat):Int))),veq (.int .i64 (((i:Nat):Int))),veq (.int .i64 (((k+i:Nat):Int))),veq ((p.at 1 (k+i))),vlsr (k+r) (P (k+i)),veq (.int .i64 (((k:Nat):Int))),veq (.int .i64 (((j:Nat):Int))),veq (.int .i64 (((k+j:Nat):Int))),vatr (k+r) (P (k+i)) (k+j),vnumr (P (k+i) (k+j)),veq (ys.v),veq (.int .i64 (((i:Nat):Int))),veq ((ys.at 2 i)),vnumr (y i),vnumr ((P (k+i) (k+j))*(y i)),veq (ys.v),veq (.int .i64 (((j:Nat):Int))),veq ((ys.at 2 j)),vnumr (y j),vnumr (((P (k+i) (k+j))*(y i))*(y j)),vnumr ((cB k r P q C y i j)+(((P (k+i) (k+j))*(y i))*(y j)))] (by kernel_rfl) (by kernel_rfl) (by rfl) (by decide) (by rfl) hZ51 ?_ ?_
       ·
        intro iq hlq hiq LL uu ww aa hLi hLc hJ hd hall hev hin hold
        clear hZ51
        obtain rfl | rfl | rfl | rfl | rfl | rfl | rfl | rfl | rfl | rfl | rfl | rfl | rfl | rfl | rfl | rfl | rfl | rfl | rfl | rfl | rfl | rfl | rfl | rfl | rfl:iq=0∨iq=1∨iq=2∨iq=3∨iq=4∨iq=5∨iq=6∨iq=7∨iq=8∨iq=9∨iq=10∨iq=11∨iq=12∨iq=13∨iq=14∨iq=15∨iq=16∨iq=17∨iq=18∨iq=19∨iq=20∨iq=21∨iq=22∨iq=23∨iq=24:=by omega
        ·
         exact oz rfl (fun _ hK=>wp_fda (v:=.pointer (some ⟨bk3,2,none⟩)) 45 (.tmp 6) 2 rfl (zet ((hev 6 (by decide)).trans rfl)) (fun _=>by kernel_rfl) (hK _ _ hJ rfl vsm))
        ·
         exact oz rfl (fun _ hK=>wp_load 43 (.tmp 96) rfl bk3 2 2 #[pg_6.v,so.v,.bool td.b,.slice td.a td.n td.c] #[.bool td.b,.slice td.a td.n td.c] 45 (hJ.es.at' _ (zzG (i:=0) rfl)) (zj (hin 0 96 rfl) (show uu 0=.pointer (some ⟨bk3,2,none⟩) from (hd 0 (by kernel_rfl)))) ag43 sz43 (zzF (by kernel_rfl)) (by kernel_rfl) (hK _ _ hJ rfl vsm))
        ·
         exact oz rfl (fun _ hK=>wp_fda (v:=.pointer (some ⟨bk1,0,none⟩)) 45 (.tmp 2) 0 rfl (zet ((hev 2 (by decide)).trans rfl)) (fun _=>by kernel_rfl) (hK _ _ hJ rfl vsm))
        ·
         exact oz rfl (fun _ hK=>wp_load1 (v:=p.v) 39 (.tmp 98) rfl bk1 0 #[p.v,s.v,.bool c.b,.slice c.a c.n c.c] 45 (hJ.get 5 (f:=Cf bk1 #[p.v,s.v,.bool c.b,.slice c.a c.n c.c] 45) rfl).1 (zj (hin 2 98 rfl) (show uu 2=.pointer (some ⟨bk1,0,none⟩) from (hd 2 (by kernel_rfl)))) ag39 (by kernel_rfl) (hK _ _ hJ rfl vsm))
        ·
         exact oz rfl (fun _ hK=>wp_move (.tmp 5) rfl (zet ((hev 5 (by decide)).trans rfl)) (hK _ _ hJ rfl vsm))
        ·
         exact oz rfl (fun _ hK=>wp_move (.tmp 11) rfl (zet ((hev 11 (by decide)).trans rfl)) (hK _ _ hJ rfl vsm))
        ·
         exact oz rfl (fun _ hK=>wp_addi (.tmp 100) (.tmp 101) rfl (zj (hin 4 100 rfl) (show uu 4=.int .i64 (((k:Nat):Int)) from (hd 4 (by kernel_rfl)))) (zj (hin 5 101 rfl) (show uu 5=.int .i64 (((i:Nat):Int)) from (hd 5 (by kernel_rfl)))) (C:=((k+i:Nat):Int)) (by omega) (by omega) (by omega) (hK _ _ hJ rfl vsm))
        ·
         exact oz rfl (fun _ hK=>wp_ixs 39 (.tmp 99) (.tmp 102) p (k+i) 1 40 rfl (zj (hin 3 99 rfl) (show uu 3=p.v from (hd 3 (by kernel_rfl)))) (zj (hin 6 102 rfl) (show uu 6=.int .i64 (((k+i:Nat):Int)) from (hd 6 (by kernel_rfl)))) (by kernel_rfl) sz40 (fun h=>((hJ.get 6 (f:=Mr (k+r) (fun _=>k+r) P p) rfl).sq.nil h).1) ((hJ.get 6 (f:=Mr (k+r) (fun _=>k+r) P p) rfl).n ▸ (by omega)) (hK _ _ hJ rfl vsm))
        ·
         exact oz rfl (fun _ hK=>wp_ldmr 40 (.tmp 103) p (k+i) (k+r) (fun _=>k+r) P rfl (zj (hin 7 103 rfl) (show uu 7=(p.at 1 (k+i)) from (hd 7 (by kernel_rfl)))) (hJ.get 6 (f:=Mr (k+r) (fun _=>k+r) P p) rfl) (by omega) ag40 (fun s15 hi_s15=>hK _ _ hJ ⟨s15,rfl,hi_s15⟩ vsm))
        ·
         exact oz rfl (fun _ hK=>wp_move (.tmp 5) rfl (zet ((hev 5 (by decide)).trans rfl)) (hK _ _ hJ rfl vsm))
        ·
         exact oz rfl (fun _ hK=>wp_move (.tmp 12) rfl (zet ((hev 12 (by decide)).trans rfl)) (hK _ _ hJ rfl vsm))
        ·
         exact oz rfl (fun _ hK=>wp_addi (.tmp 105) (.tmp 106) rfl (zj (hin 9 105 rfl) (show uu 9=.int .i64 (((k:Nat):Int)) from (hd 9 (by kernel_rfl)))) (zj (hin 10 106 rfl) (show uu 10=.int .i64 (((j:Nat):Int)) from (hd 10 (by kernel_rfl)))) (C:=((k+j:Nat):Int)) (by omega) (by omega) (by omega) (hK _ _ hJ rfl vsm))
        ·
         obtain ⟨s15,e8,hi_s15⟩:=(show (vlsr (k+r) (P (k+i))) (uu 8) XR20 ww from (hd 8 (by kernel_rfl)))
         replace hJ:=hJ.more (f:=Lr (k+r) (P (k+i)) s15) (Lr.stb _ _ _) hi_s15
         exact oz rfl (fun _ hK=>wp_ixs 40 (.tmp 104) (.tmp 107) s15 (k+j) 2 43 rfl (zj (hin 8 104 rfl) e8) (zj (hin 11 107 rfl) (show uu 11=.int .i64 (((k+j:Nat):Int)) from (hd 11 (by kernel_rfl)))) (by kernel_rfl) sz43 (fun h=>((hJ.get 0 (f:=Lr (k+r) (P (k+i)) s15) rfl).sq.nil h).1) ((hJ.get 0 (f:=Lr (k+r) (P (k+i)) s15) rfl).n ▸ (by omega)) (hK _ _ (hJ.only [td.ir,Lr k (wq k r P q y) so,Mr k (fun _=>k) P pg_6,q1.ir,Cf bk4 #[.bool q1.b,.slice q1.a q1.n q1.c] 43,Cf bk1 #[p.v,s.v,.bool c.b,.slice c.a c.n c.c] 45,Mr (k+r) (fun _=>k+r) P p,Lr (k+r) q s,Lr r y ys] (by simp)) ⟨s15,rfl,hi_s15⟩ vsm))
        ·
         obtain ⟨s15,e12,hi_s15⟩:=(show (vatr (k+r) (P (k+i)) (k+j)) (uu 12) XR20 ww from (hd 12 (by kernel_rfl)))
         replace hJ:=hJ.more (f:=Lr (k+r) (P (k+i)) s15) (Lr.stb _ _ _) hi_s15
         exact oz rfl (fun _ hK=>wp_ldnr 43 (.tmp 108) s15 (k+j) (k+r) (P (k+i)) rfl (zj (hin 12 108 rfl) e12) (hJ.get 0 (f:=Lr (k+r) (P (k+i)) s15) rfl) (by omega) ag43 sz43 (fun q16 ez_q16 hi_q16=>hK _ _ (hJ.only [td.ir,Lr k (wq k r P q y) so,Mr k (fun _=>k) P pg_6,q1.ir,Cf bk4 #[.bool q1.b,.slice q1.a q1.n q1.c] 43,Cf bk1 #[p.v,s.v,.bool c.b,.slice c.a c.n c.c] 45,Mr (k+r) (fun _=>k+r) P p,Lr (k+r) q s,Lr r y ys] (by simp)) ⟨q16,rfl,ez_q16,hi_q16⟩ vsm))
        ·
         exact oz rfl (fun _ hK=>wp_move (.tmp 1) rfl (zet ((hev 1 (by decide)).trans rfl)) (hK _ _ hJ rfl vsm))
        ·
         exact oz rfl (fun _ hK=>wp_move (.tmp 11) rfl (zet ((hev 11 (by decide)).trans rfl)) (hK _ _ hJ rfl vsm))
        ·
         exact oz rfl (fun _ hK=>wp_ixs 40 (.tmp 110) (.tmp 111) ys i 2 43 rfl (zj (hin 14 110 rfl) (show uu 14=ys.v from (hd 14 (by kernel_rfl)))) (zj (hin 15 111 rfl) (show uu 15=.int .i64 (((i:Nat):Int)) from (hd 15 (by kernel_rfl)))) (by kernel_rfl) sz43 (fun h=>((hJ.get 8 (f:=Lr r y ys) rfl).sq.nil h).1) ((hJ.get 8 (f:=Lr r y ys) rfl).n ▸ (by omega)) (hK _ _ hJ rfl vsm))
        ·
         exact oz rfl (fun _ hK=>wp_ldnr 43 (.tmp 112) ys i r y rfl (zj (hin 16 112 rfl) (show uu 16=(ys.at 2 i) from (hd 16 (by kernel_rfl)))) (hJ.get 8 (f:=Lr r y ys) rfl) (by omega) ag43 sz43 (fun q17 ez_q17 hi_q17=>hK _ _ hJ ⟨q17,rfl,ez_q17,hi_q17⟩ vsm))
        ·
         obtain ⟨q16,e13,ez_q16,hi_q16⟩:=(show (vnumr (P (k+i) (k+j))) (uu 13) XR20 ww from (hd 13 (by kernel_rfl)))
         obtain ⟨q17,e17,ez_q17,hi_q17⟩:=(show (vnumr (y i)) (uu 17) XR20 ww from (hd 17 (by kernel_rfl)))
         replace hJ:=hJ.more (f:=q16.ir) q16.stbr hi_q16
         replace hJ:=hJ.more (f:=q17.ir) q17.stbr hi_q17
         refine oz rfl (fun _ hK=>zcz (.func 71) #[.tmp 109,.tmp 113] #[43,43] 71 #[] #[q16.v,q17.v] _ rfl rfl (map2 (zj (hin 13 109 rfl) e13) (zj (hin 17 113 rfl) e17)) rfl (fun _ _=>rfl) (zMulr hJ.nx (hJ.get 1 (f:=q16.ir) rfl) (hJ.get 0 (f:=q17.ir) rfl) ez_q16 ez_q17 ((fun u hu=>bP (k+i) u (by omega) hu) (k+j) (by omega)) (by_ i (by omega)) (by omega) (by omega)) ?_)
         rintro zz ww2 ⟨q18,rfl,ez_q18,hi_q18,hB⟩
         exact ⟨_,rfl,hK _ _ ((hJ.only [td.ir,Lr k (wq k r P q y) so,Mr k (fun _=>k) P pg_6,q1.ir,Cf bk4 #[.bool q1.b,.slice q1.a q1.n q1.c] 43,Cf bk1 #[p.v,s.v,.bool c.b,.slice c.a c.n c.c] 45,Mr (k+r) (fun _=>k+r) P p,Lr (k+r) q s,Lr r y ys] (by simp)).later hB) ⟨q18,rfl,ez_q18,hi_q18⟩ (vlat hB)⟩
        ·
         exact oz rfl (fun _ hK=>wp_move (.tmp 1) rfl (zet ((hev 1 (by decide)).trans rfl)) (hK _ _ hJ rfl vsm))
        ·
         exact oz rfl (fun _ hK=>wp_move (.tmp 12) rfl (zet ((hev 12 (by decide)).trans rfl)) (hK _ _ hJ rfl vsm))
        ·
         exact oz rfl (fun _ hK=>wp_ixs 40 (.tmp 115) (.tmp 116) ys j 2 43 rfl (zj (hin 19 115 rfl) (show uu 19=ys.v from (hd 19 (by kernel_rfl)))) (zj (hin 20 116 rfl) (show uu 20=.int .i64 (((j:Nat):Int)) from (hd 20 (by kernel_rfl)))) (by kernel_rfl) sz43 (fun h=>((hJ.get 8 (f:=Lr r y ys) rfl).sq.nil h).1) ((hJ.get 8 (f:=Lr r y ys) rfl).n ▸ (by omega)) (hK _ _ hJ rfl vsm))
        ·
         exact oz rfl (fun _ hK=>wp_ldnr 43 (.tmp 117) ys j r y rfl (zj (hin 21 117 rfl) (show uu 21=(ys.at 2 j) from (hd 21 (by kernel_rfl)))) (hJ.get 8 (f:=Lr r y ys) rfl) (by omega) ag43 sz43 (fun q19 ez_q19 hi_q19=>hK _ _ hJ ⟨q19,rfl,ez_q19,hi_q19⟩ vsm))
        ·
         obtain ⟨q18,e18,ez_q18,hi_q18⟩:=(show (vnumr ((P (k+i) (k+j))*(y i))) (uu 18) XR20 ww from (hd 18 (by kernel_rfl)))
         obtain ⟨q19,e22,ez_q19,hi_q19⟩:=(show (vnumr (y j)) (uu 22) XR20 ww from (hd 22 (by kernel_rfl)))
         replace hJ:=hJ.more (f:=q18.ir) q18.stbr hi_q18
         replace hJ:=hJ.more (f:=q19.ir) q19.stbr hi_q19
         refine oz rfl (fun _ hK=>zcz (.func 71) #[.tmp 114,.tmp 118] #[43,43] 71 #[] #[q18.v,q19.v] _ rfl rfl (map2 (zj (hin 18 114 rfl) e18) (zj (hin 22 118 rfl) e22)) rfl (fun _ _=>rfl) (zMulr hJ.nx (hJ.get 1 (f:=q18.ir) rfl) (hJ.get 0 (f:=q19.ir) rfl) ez_q18 ez_q19 (Sz.mul ((fun u hu=>bP (k+i) u (by omega) hu) (k+j) (by omega)) (by_ i (by omega))) (by_ j (by omega)) (by omega) (by omega)) ?_)
         rintro zz ww2 ⟨q20,rfl,ez_q20,hi_q20,hB⟩
         exact ⟨_,rfl,hK _ _ ((hJ.only [td.ir,Lr k (wq k r P q y) so,Mr k (fun _=>k) P pg_6,q1.ir,Cf bk4 #[.bool q1.b,.slice q1.a q1.n q1.c] 43,Cf bk1 #[p.v,s.v,.bool c.b,.slice c.a c.n c.c] 45,Mr (k+r) (fun _=>k+r) P p,Lr (k+r) q s,Lr r y ys] (by simp)).later hB) ⟨q20,rfl,ez_q20,hi_q20⟩ (vlat hB)⟩
        ·
         obtain ⟨q20,e23,ez_q20,hi_q20⟩:=(show (vnumr (((P (k+i) (k+j))*(y i))*(y j))) (uu 23) XR20 ww from (hd 23 (by kernel_rfl)))
         replace hJ:=hJ.more (f:=q20.ir) q20.stbr hi_q20
         refine oz rfl (fun _ hK=>zcz (.func 55) #[.tmp 97,.tmp 119] #[43,43] 55 #[] #[td.v,q20.v] _ rfl rfl (map2 (zj (hin 1 97 rfl) (show uu 1=td.v from (hd 1 (by kernel_rfl)))) (zj (hin 23 119 rfl) e23)) rfl (fun _ _=>rfl) (zAddr hJ.nx (hJ.get 1 (f:=td.ir) rfl) (hJ.get 0 (f:=q20.ir) rfl) ez_td ez_q20 (cB_sz bP bq bC by_ he hkr hlt3 (by omega)) (Sz.mul (Sz.mul ((fun u hu=>bP (k+i) u (by omega) hu) (k+j) (by omega)) (by_ i (by omega))) (by_ j (by omega))) (by omega) (by omega)) ?_)
         rintro zz ww2 ⟨q21,rfl,ez_q21,hi_q21,hB⟩
         exact ⟨_,rfl,hK _ _ ((hJ.only [td.ir,Lr k (wq k r P q y) so,Mr k (fun _=>k) P pg_6,q1.ir,Cf bk4 #[.bool q1.b,.slice q1.a q1.n q1.c] 43,Cf bk1 #[p.v,s.v,.bool c.b,.slice c.a c.n c.c] 45,Mr (k+r) (fun _=>k+r) P p,Lr (k+r) q s,Lr r y ys] (by simp)).later hB) ⟨q21,rfl,ez_q21,hi_q21⟩ (vlat hB)⟩
       clear hZ51
       intro uu W17 hZ52 hd
       have e_0:uu 0=.pointer (some ⟨bk3,2,none⟩):=hd 0 (by decide)
       have e_1:uu 1=td.v:=hd 1 (by decide)
       have e_2:uu 2=.pointer (some ⟨bk1,0,none⟩):=hd 2 (by decide)
       have e_3:uu 3=p.v:=hd 3 (by decide)
       have e_4:uu 4=.int .i64 (((k:Nat):Int)):=hd 4 (by decide)
       have e_5:uu 5=.int .i64 (((i:Nat):Int)):=hd 5 (by decide)
       have e_6:uu 6=.int .i64 (((k+i:Nat):Int)):=hd 6 (by decide)
       have e_7:uu 7=(p.at 1 (k+i)):=hd 7 (by decide)
       obtain ⟨s15,e_8,hi_s15⟩:=(show (vlsr (k+r) (P (k+i))) (uu 8) XR20 W17 from hd 8 (by decide))
       have e_9:uu 9=.int .i64 (((k:Nat):Int)):=hd 9 (by decide)
       have e_10:uu 10=.int .i64 (((j:Nat):Int)):=hd 10 (by decide)
       have e_11:uu 11=.int .i64 (((k+j:Nat):Int)):=hd 11 (by decide)
       obtain ⟨s15_12,e_12,hi_s15_12⟩:=(show (vatr (k+r) (P (k+i)) (k+j)) (uu 12) XR20 W17 from hd 12 (by decide))
       obtain ⟨q16,e_13,ez_q16,hi_q16⟩:=(show (vnumr (P (k+i) (k+j))) (uu 13) XR20 W17 from hd 13 (by decide))
       have e_14:uu 14=ys.v:=hd 14 (by decide)
       have e_15:uu 15=.int .i64 (((i:Nat):Int)):=hd 15 (by decide)
       have e_16:uu 16=(ys.at 2 i):=hd 16 (by decide)
       obtain ⟨q17,e_17,ez_q17,hi_q17⟩:=(show (vnumr (y i)) (uu 17) XR20 W17 from hd 17 (by decide))
       obtain ⟨q18,e_18,ez_q18,hi_q18⟩:=(show (vnumr ((P (k+i) (k+j))*(y i))) (uu 18) XR20 W17 from hd 18 (by decide))
       have e_19:uu 19=ys.v:=hd 19 (by decide)
       have e_20:uu 20=.int .i64 (((j:Nat):Int)):=hd 20 (by decide)
       have e_21:uu 21=(ys.at 2 j):=hd 21 (by decide)
       obtain ⟨q19,e_22,ez_q19,hi_q19⟩:=(show (vnumr (y j)) (uu 22) XR20 W17 from hd 22 (by decide))
       obtain ⟨q20,e_23,ez_q20,hi_q20⟩:=(show (vnumr (((P (k+i) (k+j))*(y i))*(y j))) (uu 23) XR20 W17 from hd 23 (by decide))
       obtain ⟨q21,e_24,ez_q21,hi_q21⟩:=(show (vnumr ((cB k r P q C y i j)+(((P (k+i) (k+j))*(y i))*(y j)))) (uu 24) XR20 W17 from hd 24 (by decide))
       clear hd
       simp only [layS,Act.put,zzC,zzD,zzE,Nat.zero_add,Nat.reduceAdd,List.drop_succ_cons,List.drop_zero,List.drop_nil,e_0,e_1,e_2,e_3,e_4,e_5,e_6,e_7,e_8,e_9,e_10,e_11,e_12,e_13,e_14,e_15,e_16,e_17,e_18,e_19,e_20,e_21,e_22,e_23,e_24]
       clear e_0 e_1 e_2 e_3 e_4 e_5 e_6 e_7 e_8 e_9 e_10 e_11 e_12 e_13 e_14 e_15 e_16 e_17 e_18 e_19 e_20 e_21 e_22 e_23 e_24
       have hZ53:=hZ52.more (f:=Lr (k+r) (P (k+i)) s15) (Lr.stb _ _ _) hi_s15
       clear hZ52 hi_s15
       have hZ54:=hZ53.more (f:=Lr (k+r) (P (k+i)) s15_12) (Lr.stb _ _ _) hi_s15_12
       clear hZ53 hi_s15_12
       have hZ55:=hZ54.more (f:=q16.ir) q16.stbr hi_q16
       clear hZ54 hi_q16
       have hZ56:=hZ55.more (f:=q17.ir) q17.stbr hi_q17
       clear hZ55 hi_q17
       have hZ57:=hZ56.more (f:=q18.ir) q18.stbr hi_q18
       clear hZ56 hi_q18
       have hZ58:=hZ57.more (f:=q19.ir) q19.stbr hi_q19
       clear hZ57 hi_q19
       have hZ59:=hZ58.more (f:=q20.ir) q20.stbr hi_q20
       clear hZ58 hi_q20
       have hZ60:=hZ59.more (f:=q21.ir) q21.stbr hi_q21
       clear hZ59 hi_q21
       go_wp2_with (refine zso rfl (fun K hK=>wp_fda (v:=.pointer (some ⟨bk3,2,none⟩)) 45 (.tmp 6) 2 rfl rfl (fun _=>by kernel_rfl) (hK _ _ ?_)))
       simp only [Stop,Act.put,zzC,zzD,zzE]
       go_wp2_with (refine zss 43 (.tmp 121) (.tmp 120) 0 bk3 2 #[pg_6.v,so.v,.bool td.b,.slice td.a td.n td.c] 45 2 [.bool q21.b,.slice q21.a q21.n q21.c] #[pg_6.v,so.v,.bool q21.b,.slice q21.a q21.n q21.c] [(bk3,#[pg_6.v,so.v,.bool q21.b,.slice q21.a q21.n q21.c],45),(bk2,#[.slice none 0 0,.slice none 0 0,.bool false,.slice none 0 0],45)] rfl rfl rfl rfl sz43 hZ60 rfl rfl (zzF (by kernel_rfl)) (by kernel_rfl) (by kernel_rfl) (by kernel_rfl) (fun W18 hZ61=>?_))
       clear hZ60
       simp only [Stop,Act.put,zzC,zzD,zzE]
       have hZ62:=hZ61.only [q21.ir,Lr k (wq k r P q y) so,Mr k (fun _=>k) P pg_6,q1.ir,Cf bk4 #[.bool q1.b,.slice q1.a q1.n q1.c] 43,Cf bk1 #[p.v,s.v,.bool c.b,.slice c.a c.n c.c] 45,Mr (k+r) (fun _=>k+r) P p,Lr (k+r) q s,Lr r y ys] (by simp)
       clear hZ61
       go_wp2_with (refine zso rfl (fun K hK=>wp_addi (.tmp 94) (.const (.int .i64 1)) rfl rfl rfl (C:=((j+1:Nat):Int)) (by omega) (by omega) (by omega) (hK _ _ ?_)))
       simp only [Stop,Act.put,zzC,zzD,zzE]
       go_wp2
       go_roundw
       case rel=>exact ⟨j+1,q21,_,by omega,by go_num,ez_q21.trans cB_step,hZ62⟩
       case measure=>simp [intOf]; omega
      ·
       obtain rfl:r=j:=by omega
       go_wp2_with (refine zso rfl (fun K hK=>wp_lenq (.tmp 91) 40 43 ys rfl (by kernel_rfl) rfl (hZ4.get 8 (f:=Lr r y ys) rfl).n (hK _ _ ?_)))
       simp only [Stop,Act.put,zzC,zzD,zzE]
       go_wp2_with (refine zso rfl (fun K hK=>wp_lssi (.tmp 90) (.tmp 92) rfl rfl rfl (r:=false) (decide_eq_false (Int.lt_irrefl _)) (hK _ _ ?_)))
       simp only [Stop,Act.put,zzC,zzD,zzE]
       go_wp2_with (refine zso rfl (fun K hK=>wp_addi (.tmp 70) (.const (.int .i64 1)) rfl rfl rfl (C:=((i+1:Nat):Int)) (by omega) (by omega) (by omega) (hK _ _ ?_)))
       simp only [Stop,Act.put,zzC,zzD,zzE]
       go_wp2
       go_roundw
       case rel=>exact ⟨i+1,td,_,by omega,by go_num,ez_td.trans cB_end,hZ4⟩
       case measure=>simp [intOf]; omega
    ·
     obtain rfl:r=i:=by omega
     go_wp2_with (refine zso rfl (fun K hK=>wp_lenq (.tmp 67) 40 43 ys rfl (by kernel_rfl) rfl (hZ3.get 8 (f:=Lr r y ys) rfl).n (hK _ _ ?_)))
     simp only [Stop,Act.put,zzC,zzD,zzE]
     go_wp2_with (refine zso rfl (fun K hK=>wp_lssi (.tmp 66) (.tmp 68) rfl rfl rfl (r:=false) (decide_eq_false (Int.lt_irrefl _)) (hK _ _ ?_)))
     simp only [Stop,Act.put,zzC,zzD,zzE]
     go_wp2_with (refine zso rfl (fun K hK=>wp_load 45 (.tmp 6) rfl bk3 0 4 #[pg_6.v,so.v,.bool tc.b,.slice tc.a tc.n tc.c] #[pg_6.v,so.v,.bool tc.b,.slice tc.a tc.n tc.c] 45 (hZ3.es.at' _ (zzG (i:=0) rfl)) rfl ag45 sz45 (zzF (by kernel_rfl)) (by kernel_rfl) (hK _ _ ?_)))
     simp only [Stop,Act.put,zzC,zzD,zzE]
     go_wp2_with (refine zss 45 (.tmp 4) (.tmp 122) 1 bk2 0 #[.slice none 0 0,.slice none 0 0,.bool false,.slice none 0 0] 45 4 [pg_6.v,so.v,.bool tc.b,.slice tc.a tc.n tc.c] #[pg_6.v,so.v,.bool tc.b,.slice tc.a tc.n tc.c] [(bk3,#[pg_6.v,so.v,.bool tc.b,.slice tc.a tc.n tc.c],45),(bk2,#[pg_6.v,so.v,.bool tc.b,.slice tc.a tc.n tc.c],45)] rfl rfl rfl rfl sz45 hZ3 rfl rfl (zzF (by kernel_rfl)) (by kernel_rfl) (by kernel_rfl) (by kernel_rfl) (fun W19 hZ63=>?_))
     clear hZ3
     simp only [Stop,Act.put,zzC,zzD,zzE]
     go_wp2
     exact bodyPost_ret (v:=.agg #[pg_6.v,so.v,.bool tc.b,.slice tc.a tc.n tc.c]) (results_cell 1 Tryz.results29 hZ63.es rfl ag45 sz45 (zzF (by kernel_rfl)) rfl (by kernel_rfl)) rfl ⟨pg_6,so,tc,rfl,(hZ63.out 2 (f:=Mr k (fun _=>k) P pg_6) rfl),(hZ63.out 1 (f:=Lr k (wq k r P q y) so) rfl),ez_tc.trans cA_end,(hZ63.out 0 (f:=tc.ir) rfl),hZ63.below⟩
end Go.Proofs.YtjclllindbfmhaaGreatDoor
