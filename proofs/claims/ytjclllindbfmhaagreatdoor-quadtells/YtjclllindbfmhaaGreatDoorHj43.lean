/- Parts of the proof. -/
import Derived.Test.YtjclllindbfmhaaGreatDoorHj0
import Derived.Test.YtjclllindbfmhaaGreatDoorHj42
import Derived.Test.YtjclllindbfmhaaGreatDoorHj34
set_option linter.unusedSimpArgs false
set_option linter.unusedVariables false
namespace Go.Proofs.YtjclllindbfmhaaGreatDoor
/- The document's Add of layer 8, walked. No statement of the seat is proved here. -/
open Go Go.RowKit
theorem bmap1 {a:Act} {i:Nat} {x:Operand} {u:Value} (h1:a.eval x=u):#[(i,x)].map (fun (i,x)=>(i,a.eval x))=#[(i,u)]:=by simp [h1]
set_option maxRecDepth 100000 in
set_option maxHeartbeats 12800000 in
theorem dAdd8 {X0:Nat→Prop} {w:World} (hX:NX X0 w) (p s:Sl) (c:NL) {n e:Nat} {P:Nat→Nat→Int} {q:Nat→Int} {C:Int} (g s2:Sl) (d:NL) {G:Nat→Nat→Int} {u:Nat→Int} {D:Int} (hp:Mr n (fun _=>n) P p X0 w) (hq:Lr n q s X0 w) (hc:c.ir X0 w) (ez_c:c.z=C) (hg:Mr n (fun _=>n) G g X0 w) (hu:Lr n u s2 X0 w) (hd:d.ir X0 w) (ez_d:d.z=D) (bP:∀ i j,i < n→j < n→Sz e (P i j)) (bq:∀ i,i < n→Sz e (q i)) (bC:Sz e C) (bG:∀ i j,i < n→j < n→Sz e (G i j)) (bu:∀ i,i < n→Sz e (u i)) (bD:Sz e D) (hn:n≤100) (he:e≤10000):Calls Tryz.prog 25 #[.agg #[p.v,s.v,.bool c.b,.slice c.a c.n c.c],.agg #[g.v,s2.v,.bool d.b,.slice d.a d.n d.c]] w (PUXr X0 n (fun i j=>P i j+G i j) (fun i=>q i+u i) (C+D) w):=by
 have hZ0:=zs_start hX
 have hZ1:=hZ0.more (f:=d.ir) d.stbr hd
 clear hZ0
 have hZ2:=hZ1.more (f:=Lr n u s2) (Lr.stb _ _ _) hu
 clear hZ1
 have hZ3:=hZ2.more (f:=Mr n (fun _=>n) G g) (Mr.stb _ _ _ _) hg
 clear hZ2
 have hZ4:=hZ3.more (f:=c.ir) c.stbr hc
 clear hZ3
 have hZ5:=hZ4.more (f:=Lr n q s) (Lr.stb _ _ _) hq
 clear hZ4
 have hZ6:=hZ5.more (f:=Mr n (fun _=>n) P p) (Mr.stb _ _ _ _) hp
 clear hZ5
 go_enter Tryz.func25,Tryz.ntmps25
 go_wp2_with (refine zsb 45 (.tmp 0) #[p.v,s.v,.bool c.b,.slice c.a c.n c.c] rfl rfl rfl hZ6 (fun bk1 X7 W1 hZ7=>?_))
 clear hZ6
 simp only [Stop,Act.put,zzC,zzD,zzE]
 go_wp2_with (refine zsb 45 (.tmp 1) #[g.v,s2.v,.bool d.b,.slice d.a d.n d.c] rfl rfl rfl hZ7 (fun bk2 X8 W2 hZ8=>?_))
 clear hZ7
 simp only [Stop,Act.put,zzC,zzD,zzE]
 go_wp2_with (refine zsa 45 #[.slice none 0 0,.slice none 0 0,.bool false,.slice none 0 0] (.agg #[.slice none 0 0,.slice none 0 0,.bool false,.slice none 0 0]) rfl rfl zv45 rfl hZ8 (fun bk3 X9 W3 hZ9=>?_))
 clear hZ8
 simp only [Stop,Act.put,zzC,zzD,zzE]
 have hZ10:=hZ9.perm ((List.Perm.cons _ (List.Perm.swap _ _ _)).trans (List.Perm.swap _ _ _))
 clear hZ9
 have hZ11:=hZ10.release hX
 clear hZ10
 have hZ12:=hZ11.perm (List.Perm.swap _ _ _)
 clear hZ11
 have hZ13:=hZ12.release hX
 clear hZ12
 go_wp2_with (refine zso rfl (fun K hK=>wp_fda (v:=.pointer (some ⟨bk1,2,none⟩)) 45 (.tmp 2) 2 rfl rfl (fun _=>by kernel_rfl) (hK _ _ ?_)))
 simp only [Stop,Act.put,zzC,zzD,zzE]
 go_wp2_with (refine zso rfl (fun K hK=>wp_load 43 (.tmp 9) rfl bk1 2 2 #[p.v,s.v,.bool c.b,.slice c.a c.n c.c] #[.bool c.b,.slice c.a c.n c.c] 45 (hZ13.get 1 (f:=Cf bk1 #[p.v,s.v,.bool c.b,.slice c.a c.n c.c] 45) rfl).1 rfl ag43 sz43 (zzF (by kernel_rfl)) (by kernel_rfl) (hK _ _ ?_)))
 simp only [Stop,Act.put,zzC,zzD,zzE]
 go_wp2_with (refine zso rfl (fun K hK=>wp_fda (v:=.pointer (some ⟨bk2,2,none⟩)) 45 (.tmp 3) 2 rfl rfl (fun _=>by kernel_rfl) (hK _ _ ?_)))
 simp only [Stop,Act.put,zzC,zzD,zzE]
 go_wp2_with (refine zso rfl (fun K hK=>wp_load 43 (.tmp 11) rfl bk2 2 2 #[g.v,s2.v,.bool d.b,.slice d.a d.n d.c] #[.bool d.b,.slice d.a d.n d.c] 45 (hZ13.get 0 (f:=Cf bk2 #[g.v,s2.v,.bool d.b,.slice d.a d.n d.c] 45) rfl).1 rfl ag43 sz43 (zzF (by kernel_rfl)) (by kernel_rfl) (hK _ _ ?_)))
 simp only [Stop,Act.put,zzC,zzD,zzE]
 go_wp2_with fail
 refine (zAddr hZ13.nx (hZ13.get 4 (f:=c.ir) rfl) (hZ13.get 7 (f:=d.ir) rfl) ez_c ez_d bC bD (by omega) (by omega)).mono ?_
 rintro zz W4 ⟨q1,rfl,ez_q1,hi_q1,hB⟩
 have hZ14:=hZ13.later hB
 clear hB hZ13
 have hZ15:=hZ14.more (f:=q1.ir) q1.stbr hi_q1
 clear hZ14 hi_q1
 go_wp2_with (refine zso rfl (fun K hK=>wp_bld (v:=.agg #[.slice none 0 0,.slice none 0 0,.bool q1.b,.slice q1.a q1.n q1.c]) 45 #[(2,.tmp 13)] rfl (bmap1 (u:=q1.v) rfl) (fun _=>by kernel_rfl) (hK _ _ ?_)))
 simp only [Stop,Act.put,zzC,zzD,zzE]
 go_wp2_with (refine zsa 45 #[.slice none 0 0,.slice none 0 0,.bool false,.slice none 0 0] (.agg #[.slice none 0 0,.slice none 0 0,.bool false,.slice none 0 0]) rfl rfl zv45 rfl hZ15 (fun bk4 X16 W5 hZ16=>?_))
 clear hZ15
 simp only [Stop,Act.put,zzC,zzD,zzE]
 go_wp2_with (refine zss 45 (.tmp 5) (.tmp 14) 0 bk4 0 #[.slice none 0 0,.slice none 0 0,.bool false,.slice none 0 0] 45 4 [.slice none 0 0,.slice none 0 0,.bool q1.b,.slice q1.a q1.n q1.c] #[.slice none 0 0,.slice none 0 0,.bool q1.b,.slice q1.a q1.n q1.c] [(bk4,#[.slice none 0 0,.slice none 0 0,.bool q1.b,.slice q1.a q1.n q1.c],45),(bk3,#[.slice none 0 0,.slice none 0 0,.bool false,.slice none 0 0],45)] rfl rfl rfl rfl sz45 hZ16 rfl rfl (zzF (by kernel_rfl)) (by kernel_rfl) (by kernel_rfl) (by kernel_rfl) (fun W6 hZ17=>?_))
 clear hZ16
 simp only [Stop,Act.put,zzC,zzD,zzE]
 have hZ18:=hZ17.only [q1.ir,Cf bk1 #[p.v,s.v,.bool c.b,.slice c.a c.n c.c] 45,Cf bk2 #[g.v,s2.v,.bool d.b,.slice d.a d.n d.c] 45,Mr n (fun _=>n) P p,Lr n q s,Mr n (fun _=>n) G g,Lr n u s2] (by simp)
 clear hZ17
 go_wp2
 go_loopw [6] (fun iv wr=>∃ (i:Nat) (po so:Sl) (Cp Cs:Array Value) (X:Nat→Prop),i≤n∧iv=.int .i64 ((i:Nat):Int)∧po.n=i∧Wr 1 po Cp∧so.n=i∧Wr 2 so Cs∧Zs w wr X0 X ([(bk4,#[po.v,so.v,.bool q1.b,.slice q1.a q1.n q1.c],45),(bk3,#[.slice none 0 0,.slice none 0 0,.bool false,.slice none 0 0],45)]++(owl po Cp 40++owl so Cs 43)) [Fl 1 (ERr (fun _=>n) (fun i j=>P i j+G i j)) i Cp,Fl 2 (ENr (fun i=>q i+u i)) i Cs,q1.ir,Cf bk1 #[p.v,s.v,.bool c.b,.slice c.a c.n c.c] 45,Cf bk2 #[g.v,s2.v,.bool d.b,.slice d.a d.n d.c] 45,Mr n (fun _=>n) P p,Lr n q s,Mr n (fun _=>n) G g,Lr n u s2]) (fun iv _=>n - (intOf iv).toNat)
 case atStart=>exact ⟨0,slz,slz,#[],#[],_,by omega,rfl,rfl,wr_slz 1,rfl,wr_slz 2,by simpa [owl,slz,Sl.v] using ((hZ18.more (f:=Fl 2 (ENr (fun i=>q i+u i)) 0 #[]) (Fl.stb (ENr.stb _) _ _) (fl_zero 2 (ENr (fun i=>q i+u i)) #[] _ _)).more (f:=Fl 1 (ERr (fun _=>n) (fun i j=>P i j+G i j)) 0 #[]) (Fl.stb (ERr.stb _ _) _ _) (fl_zero 1 (ERr (fun _=>n) (fun i j=>P i j+G i j)) #[] _ _))⟩
 case round =>
  clear hZ18
  obtain ⟨i,po,so,Cp,Cs,X,hi,rfl,hn_po,hw_po,hn_so,hw_so,hZ⟩:=hrel
  by_cases hlt:i < n
  ·
   go_wp2_with (refine zso rfl (fun K hK=>wp_fda (v:=.pointer (some ⟨bk1,1,none⟩)) 45 (.tmp 2) 1 rfl rfl (fun _=>by kernel_rfl) (hK _ _ ?_)))
   simp only [Stop,Act.put,zzC,zzD,zzE]
   go_wp2_with (refine zso rfl (fun K hK=>wp_load1 (v:=s.v) 40 (.tmp 16) rfl bk1 1 #[p.v,s.v,.bool c.b,.slice c.a c.n c.c] 45 (hZ.get 3 (f:=Cf bk1 #[p.v,s.v,.bool c.b,.slice c.a c.n c.c] 45) rfl).1 rfl ag40 (by kernel_rfl) (hK _ _ ?_)))
   simp only [Stop,Act.put,zzC,zzD,zzE]
   go_wp2_with (refine zso rfl (fun K hK=>wp_lenq (.tmp 17) 40 43 s rfl (by kernel_rfl) rfl (hZ.get 6 (f:=Lr n q s) rfl).n (hK _ _ ?_)))
   simp only [Stop,Act.put,zzC,zzD,zzE]
   go_wp2_with (refine zso rfl (fun K hK=>wp_lssi (.tmp 15) (.tmp 18) rfl rfl rfl (r:=true) (decide_eq_true (by omega)) (hK _ _ ?_)))
   simp only [Stop,Act.put,zzC,zzD,zzE]
   go_wp2
   obtain ⟨XR5,hZ19⟩:∃ Xr,Zs w wr X0 Xr ([(bk4,#[po.v,so.v,.bool q1.b,.slice q1.a q1.n q1.c],45),(bk3,#[.slice none 0 0,.slice none 0 0,.bool false,.slice none 0 0],45)]++(owl po Cp 40++owl so Cs 43)) [Fl 1 (ERr (fun _=>n) (fun i j=>P i j+G i j)) i Cp,Fl 2 (ENr (fun i=>q i+u i)) i Cs,q1.ir,Cf bk1 #[p.v,s.v,.bool c.b,.slice c.a c.n c.c] 45,Cf bk2 #[g.v,s2.v,.bool d.b,.slice d.a d.n d.c] 45,Mr n (fun _=>n) P p,Lr n q s,Mr n (fun _=>n) G g,Lr n u s2]:=⟨_,hZ⟩
   clear hZ
   refine zrq 14 [some 22,some 23,some 24,some 25,some 26,some 27,some 28,some 29,some 30,some 31,some 32,some 33,some 34,some 35] [veq (.pointer (some ⟨bk4,1,none⟩)),veq (so.v),veq (.pointer (some ⟨bk1,1,none⟩)),veq (s.v),veq (.int .i64 (((i:Nat):Int))),veq ((s.at 2 i)),vnumr (q i),veq (.pointer (some ⟨bk2,1,none⟩)),veq (s2.v),veq (.int .i64 (((i:Nat):Int))),veq ((s2.at 2 i)),vnumr (u i),vnumr ((q i)+(u i)),vlsr 1 (fun _=>(q i)+(u i))] (by kernel_rfl) (by kernel_rfl) (by rfl) (by decide) (by rfl) hZ19 ?_ ?_
   ·
    intro iq hlq hiq LL uu ww aa hLi hLc hJ hd hall hev hin hold
    clear hZ19
    obtain rfl | rfl | rfl | rfl | rfl | rfl | rfl | rfl | rfl | rfl | rfl | rfl | rfl | rfl:iq=0∨iq=1∨iq=2∨iq=3∨iq=4∨iq=5∨iq=6∨iq=7∨iq=8∨iq=9∨iq=10∨iq=11∨iq=12∨iq=13:=by omega
    ·
     exact oz rfl (fun _ hK=>wp_fda (v:=.pointer (some ⟨bk4,1,none⟩)) 45 (.tmp 5) 1 rfl (zet ((hev 5 (by decide)).trans rfl)) (fun _=>by kernel_rfl) (hK _ _ hJ rfl vsm))
    ·
     exact oz rfl (fun _ hK=>wp_load1 (v:=so.v) 40 (.tmp 22) rfl bk4 1 #[po.v,so.v,.bool q1.b,.slice q1.a q1.n q1.c] 45 (hJ.es.at' _ (zzG (i:=0) rfl)) (zj (hin 0 22 rfl) (show uu 0=.pointer (some ⟨bk4,1,none⟩) from (hd 0 (by kernel_rfl)))) ag40 (by kernel_rfl) (hK _ _ hJ rfl vsm))
    ·
     exact oz rfl (fun _ hK=>wp_fda (v:=.pointer (some ⟨bk1,1,none⟩)) 45 (.tmp 2) 1 rfl (zet ((hev 2 (by decide)).trans rfl)) (fun _=>by kernel_rfl) (hK _ _ hJ rfl vsm))
    ·
     exact oz rfl (fun _ hK=>wp_load1 (v:=s.v) 40 (.tmp 24) rfl bk1 1 #[p.v,s.v,.bool c.b,.slice c.a c.n c.c] 45 (hJ.get 3 (f:=Cf bk1 #[p.v,s.v,.bool c.b,.slice c.a c.n c.c] 45) rfl).1 (zj (hin 2 24 rfl) (show uu 2=.pointer (some ⟨bk1,1,none⟩) from (hd 2 (by kernel_rfl)))) ag40 (by kernel_rfl) (hK _ _ hJ rfl vsm))
    ·
     exact oz rfl (fun _ hK=>wp_move (.tmp 6) rfl (zet ((hev 6 (by decide)).trans rfl)) (hK _ _ hJ rfl vsm))
    ·
     exact oz rfl (fun _ hK=>wp_ixs 40 (.tmp 25) (.tmp 26) s i 2 43 rfl (zj (hin 3 25 rfl) (show uu 3=s.v from (hd 3 (by kernel_rfl)))) (zj (hin 4 26 rfl) (show uu 4=.int .i64 (((i:Nat):Int)) from (hd 4 (by kernel_rfl)))) (by kernel_rfl) sz43 (fun h=>((hJ.get 6 (f:=Lr n q s) rfl).sq.nil h).1) ((hJ.get 6 (f:=Lr n q s) rfl).n ▸ (by omega)) (hK _ _ hJ rfl vsm))
    ·
     exact oz rfl (fun _ hK=>wp_ldnr 43 (.tmp 27) s i n q rfl (zj (hin 5 27 rfl) (show uu 5=(s.at 2 i) from (hd 5 (by kernel_rfl)))) (hJ.get 6 (f:=Lr n q s) rfl) (by omega) ag43 sz43 (fun q2 ez_q2 hi_q2=>hK _ _ hJ ⟨q2,rfl,ez_q2,hi_q2⟩ vsm))
    ·
     exact oz rfl (fun _ hK=>wp_fda (v:=.pointer (some ⟨bk2,1,none⟩)) 45 (.tmp 3) 1 rfl (zet ((hev 3 (by decide)).trans rfl)) (fun _=>by kernel_rfl) (hK _ _ hJ rfl vsm))
    ·
     exact oz rfl (fun _ hK=>wp_load1 (v:=s2.v) 40 (.tmp 29) rfl bk2 1 #[g.v,s2.v,.bool d.b,.slice d.a d.n d.c] 45 (hJ.get 4 (f:=Cf bk2 #[g.v,s2.v,.bool d.b,.slice d.a d.n d.c] 45) rfl).1 (zj (hin 7 29 rfl) (show uu 7=.pointer (some ⟨bk2,1,none⟩) from (hd 7 (by kernel_rfl)))) ag40 (by kernel_rfl) (hK _ _ hJ rfl vsm))
    ·
     exact oz rfl (fun _ hK=>wp_move (.tmp 6) rfl (zet ((hev 6 (by decide)).trans rfl)) (hK _ _ hJ rfl vsm))
    ·
     exact oz rfl (fun _ hK=>wp_ixs 40 (.tmp 30) (.tmp 31) s2 i 2 43 rfl (zj (hin 8 30 rfl) (show uu 8=s2.v from (hd 8 (by kernel_rfl)))) (zj (hin 9 31 rfl) (show uu 9=.int .i64 (((i:Nat):Int)) from (hd 9 (by kernel_rfl)))) (by kernel_rfl) sz43 (fun h=>((hJ.get 8 (f:=Lr n u s2) rfl).sq.nil h).1) ((hJ.get 8 (f:=Lr n u s2) rfl).n ▸ (by omega)) (hK _ _ hJ rfl vsm))
    ·
     exact oz rfl (fun _ hK=>wp_ldnr 43 (.tmp 32) s2 i n u rfl (zj (hin 10 32 rfl) (show uu 10=(s2.at 2 i) from (hd 10 (by kernel_rfl)))) (hJ.get 8 (f:=Lr n u s2) rfl) (by omega) ag43 sz43 (fun q3 ez_q3 hi_q3=>hK _ _ hJ ⟨q3,rfl,ez_q3,hi_q3⟩ vsm))
    ·
     obtain ⟨q2,e6,ez_q2,hi_q2⟩:=(show (vnumr (q i)) (uu 6) XR5 ww from (hd 6 (by kernel_rfl)))
     obtain ⟨q3,e11,ez_q3,hi_q3⟩:=(show (vnumr (u i)) (uu 11) XR5 ww from (hd 11 (by kernel_rfl)))
     replace hJ:=hJ.more (f:=q2.ir) q2.stbr hi_q2
     replace hJ:=hJ.more (f:=q3.ir) q3.stbr hi_q3
     refine oz rfl (fun _ hK=>zcz (.func 55) #[.tmp 28,.tmp 33] #[43,43] 55 #[] #[q2.v,q3.v] _ rfl rfl (map2 (zj (hin 6 28 rfl) e6) (zj (hin 11 33 rfl) e11)) rfl (fun _ _=>rfl) (zAddr hJ.nx (hJ.get 1 (f:=q2.ir) rfl) (hJ.get 0 (f:=q3.ir) rfl) ez_q2 ez_q3 (bq i (by omega)) (bu i (by omega)) (by omega) (by omega)) ?_)
     rintro zz ww2 ⟨q4,rfl,ez_q4,hi_q4,hB⟩
     exact ⟨_,rfl,hK _ _ ((hJ.only [Fl 1 (ERr (fun _=>n) (fun i j=>P i j+G i j)) i Cp,Fl 2 (ENr (fun i=>q i+u i)) i Cs,q1.ir,Cf bk1 #[p.v,s.v,.bool c.b,.slice c.a c.n c.c] 45,Cf bk2 #[g.v,s2.v,.bool d.b,.slice d.a d.n d.c] 45,Mr n (fun _=>n) P p,Lr n q s,Mr n (fun _=>n) G g,Lr n u s2] (by simp)).later hB) ⟨q4,rfl,ez_q4,hi_q4⟩ (vlat hB)⟩
    ·
     obtain ⟨q4,e12,ez_q4,hi_q4⟩:=(show (vnumr ((q i)+(u i))) (uu 12) XR5 ww from (hd 12 (by kernel_rfl)))
     replace hJ:=hJ.more (f:=q4.ir) q4.stbr hi_q4
     exact oz rfl (fun _ hK=>wp_bsnr ei40 (.tmp 34) q4 rfl (zj (hin 12 34 rfl) e12) hJ hi_q4 (fun s5 ww2 hB hzb=>hK _ _ (hzb.only [Fl 1 (ERr (fun _=>n) (fun i j=>P i j+G i j)) i Cp,Fl 2 (ENr (fun i=>q i+u i)) i Cs,q1.ir,Cf bk1 #[p.v,s.v,.bool c.b,.slice c.a c.n c.c] 45,Cf bk2 #[g.v,s2.v,.bool d.b,.slice d.a d.n d.c] 45,Mr n (fun _=>n) P p,Lr n q s,Mr n (fun _=>n) G g,Lr n u s2] (by simp)) ⟨s5,rfl,(hzb.get 0 (f:=Lr 1 (fun _=>q4.z) s5) rfl).congr (fun _ _=>ez_q4)⟩ (vlat hB)))
   clear hZ19
   intro uu W7 hZ20 hd
   have e_0:uu 0=.pointer (some ⟨bk4,1,none⟩):=hd 0 (by decide)
   have e_1:uu 1=so.v:=hd 1 (by decide)
   have e_2:uu 2=.pointer (some ⟨bk1,1,none⟩):=hd 2 (by decide)
   have e_3:uu 3=s.v:=hd 3 (by decide)
   have e_4:uu 4=.int .i64 (((i:Nat):Int)):=hd 4 (by decide)
   have e_5:uu 5=(s.at 2 i):=hd 5 (by decide)
   obtain ⟨q2,e_6,ez_q2,hi_q2⟩:=(show (vnumr (q i)) (uu 6) XR5 W7 from hd 6 (by decide))
   have e_7:uu 7=.pointer (some ⟨bk2,1,none⟩):=hd 7 (by decide)
   have e_8:uu 8=s2.v:=hd 8 (by decide)
   have e_9:uu 9=.int .i64 (((i:Nat):Int)):=hd 9 (by decide)
   have e_10:uu 10=(s2.at 2 i):=hd 10 (by decide)
   obtain ⟨q3,e_11,ez_q3,hi_q3⟩:=(show (vnumr (u i)) (uu 11) XR5 W7 from hd 11 (by decide))
   obtain ⟨q4,e_12,ez_q4,hi_q4⟩:=(show (vnumr ((q i)+(u i))) (uu 12) XR5 W7 from hd 12 (by decide))
   obtain ⟨s5,e_13,hi_s5⟩:=(show (vlsr 1 (fun _=>(q i)+(u i))) (uu 13) XR5 W7 from hd 13 (by decide))
   clear hd
   simp only [layS,Act.put,zzC,zzD,zzE,Nat.zero_add,Nat.reduceAdd,List.drop_succ_cons,List.drop_zero,List.drop_nil,e_0,e_1,e_2,e_3,e_4,e_5,e_6,e_7,e_8,e_9,e_10,e_11,e_12,e_13]
   clear e_0 e_1 e_2 e_3 e_4 e_5 e_6 e_7 e_8 e_9 e_10 e_11 e_12 e_13
   have hZ21:=hZ20.more (f:=q2.ir) q2.stbr hi_q2
   clear hZ20 hi_q2
   have hZ22:=hZ21.more (f:=q3.ir) q3.stbr hi_q3
   clear hZ21 hi_q3
   have hZ23:=hZ22.more (f:=q4.ir) q4.stbr hi_q4
   clear hZ22 hi_q4
   have hZ24:=hZ23.more (f:=Lr 1 (fun _=>(q i)+(u i)) s5) (Lr.stb _ _ _) hi_s5
   clear hZ23 hi_s5
   obtain ⟨qa6,q6,ea6,ez_q6,hi_q6,hca6⟩:=Lr.one (hZ24.get 0 (f:=Lr 1 (fun _=>(q i)+(u i)) s5) rfl)
   have EA6:=Lib.hid ea6
   clear ea6
   have hZ25w:=hZ24.more (f:=q6.ir) q6.stbr hi_q6
   have hZ25y:=hZ25w.perm ((List.Perm.append_left _ List.perm_append_comm).trans (perm_mid _ _ _))
   clear hZ25w hi_q6
   go_wp2_with (refine zso rfl (fun K hK=>wp_app ei40 (.tmp 23) (.tmp 35) rfl (s:=so) rfl qa6 s5.c EA6.out hw_so (by rw [hn_so]; omega) hZ25y [.bool q6.b,.slice q6.a q6.n q6.c] rfl hca6 (fun u hu=>by simp only [List.mem_cons,List.not_mem_nil,or_false] at hu; rcases hu with rfl | rfl <;> rfl) (fun o6 C6 X25 W8 hn_o6 hw_o6 ho_C6 hg_C6 hZ25x=>hK _ _ ?_)))
   simp only [Stop,Act.put,zzC,zzD,zzE]
   clear hZ25y hca6 EA6
   rw [hn_so] at hn_o6 ho_C6 hg_C6
   have hZ25:=hZ25x.perm (List.Perm.symm ((List.Perm.append_left _ List.perm_append_comm).trans (perm_mid _ _ _)))
   clear hZ25x hZ24
   go_wp2_with (refine zso rfl (fun K hK=>wp_fda (v:=.pointer (some ⟨bk4,1,none⟩)) 45 (.tmp 5) 1 rfl rfl (fun _=>by kernel_rfl) (hK _ _ ?_)))
   simp only [Stop,Act.put,zzC,zzD,zzE]
   go_wp2_with (refine zss 40 (.tmp 37) (.tmp 36) 0 bk4 1 #[po.v,so.v,.bool q1.b,.slice q1.a q1.n q1.c] 45 1 [o6.v] #[po.v,o6.v,.bool q1.b,.slice q1.a q1.n q1.c] ([(bk4,#[po.v,o6.v,.bool q1.b,.slice q1.a q1.n q1.c],45),(bk3,#[.slice none 0 0,.slice none 0 0,.bool false,.slice none 0 0],45)]++(owl po Cp 40++owl o6 C6 43)) rfl rfl rfl rfl sz40 hZ25 rfl rfl (zzF (by kernel_rfl)) (by kernel_rfl) (by kernel_rfl) (by kernel_rfl) (fun W9 hZ26=>?_))
   clear hZ25
   simp only [Stop,Act.put,zzC,zzD,zzE]
   have hZ27s:Fl 2 (ENr (fun i=>q i+u i)) (i+1) C6 X25 W9:=Fl.snoc (C:=Cs) (hZ26.get 6 (f:=Fl 2 (ENr (fun i=>q i+u i)) i Cs) rfl) (cs:=[.bool q6.b,.slice q6.a q6.n q6.c]) rfl ho_C6 hg_C6 ⟨q6,ez_q6.trans (by rfl),(hZ26.get 0 (f:=q6.ir) rfl),rfl⟩
   have hZ27:=(hZ26.more (Fl.stb (ENr.stb _) _ _) hZ27s).only [Fl 2 (ENr (fun i=>q i+u i)) (i+1) C6,Fl 1 (ERr (fun _=>n) (fun i j=>P i j+G i j)) i Cp,q1.ir,Cf bk1 #[p.v,s.v,.bool c.b,.slice c.a c.n c.c] 45,Cf bk2 #[g.v,s2.v,.bool d.b,.slice d.a d.n d.c] 45,Mr n (fun _=>n) P p,Lr n q s,Mr n (fun _=>n) G g,Lr n u s2] (by simp)
   clear hZ26 hZ27s
   have hZ28:=hZ27.only [Fl 1 (ERr (fun _=>n) (fun i j=>P i j+G i j)) i Cp,Fl 2 (ENr (fun i=>q i+u i)) (i+1) C6,q1.ir,Cf bk1 #[p.v,s.v,.bool c.b,.slice c.a c.n c.c] 45,Cf bk2 #[g.v,s2.v,.bool d.b,.slice d.a d.n d.c] 45,Mr n (fun _=>n) P p,Lr n q s,Mr n (fun _=>n) G g,Lr n u s2] (by simp)
   clear hZ27
   go_wp2
   obtain ⟨wo,rfl⟩:∃ wo:World,wo=W9:=⟨_,rfl⟩
   go_wp2
   go_loopw [7,8] (fun rv jv wr=>∃ (j:Nat) (ro:Sl) (Cr:Array Value) (X:Nat→Prop),j≤n∧jv=.int .i64 ((j:Nat):Int)∧rv=ro.v∧ro.n=j∧Wr 2 ro Cr∧Zs w wr X0 X ([(bk4,#[po.v,o6.v,.bool q1.b,.slice q1.a q1.n q1.c],45),(bk3,#[.slice none 0 0,.slice none 0 0,.bool false,.slice none 0 0],45)]++(owl ro Cr 43++(owl po Cp 40++owl o6 C6 43))) [Fl 2 (ENr ((fun i j=>P i j+G i j) i)) j Cr,Fl 1 (ERr (fun _=>n) (fun i j=>P i j+G i j)) i Cp,Fl 2 (ENr (fun i=>q i+u i)) (i+1) C6,q1.ir,Cf bk1 #[p.v,s.v,.bool c.b,.slice c.a c.n c.c] 45,Cf bk2 #[g.v,s2.v,.bool d.b,.slice d.a d.n d.c] 45,Mr n (fun _=>n) P p,Lr n q s,Mr n (fun _=>n) G g,Lr n u s2]) (fun _ jv _=>n - (intOf jv).toNat)
   case atStart=>exact ⟨0,slz,#[],_,by omega,rfl,rfl,rfl,wr_slz 2,by simpa [owl,slz] using (hZ28.more (f:=Fl 2 (ENr ((fun i j=>P i j+G i j) i)) 0 #[]) (Fl.stb (ENr.stb _) _ _) (fl_zero 2 (ENr ((fun i j=>P i j+G i j) i)) #[] _ _))⟩
   case round =>
    clear hZ28
    obtain ⟨j,ro,Cr,X2,hj,rfl,rfl,hn_ro,hw_ro,hZ2⟩:=hrel
    by_cases hlt2:j < n
    ·
     go_wp2_with (refine zso rfl (fun K hK=>wp_fda (v:=.pointer (some ⟨bk1,1,none⟩)) 45 (.tmp 2) 1 rfl rfl (fun _=>by kernel_rfl) (hK _ _ ?_)))
     simp only [Stop,Act.put,zzC,zzD,zzE]
     go_wp2_with (refine zso rfl (fun K hK=>wp_load1 (v:=s.v) 40 (.tmp 39) rfl bk1 1 #[p.v,s.v,.bool c.b,.slice c.a c.n c.c] 45 (hZ2.get 4 (f:=Cf bk1 #[p.v,s.v,.bool c.b,.slice c.a c.n c.c] 45) rfl).1 rfl ag40 (by kernel_rfl) (hK _ _ ?_)))
     simp only [Stop,Act.put,zzC,zzD,zzE]
     go_wp2_with (refine zso rfl (fun K hK=>wp_lenq (.tmp 40) 40 43 s rfl (by kernel_rfl) rfl (hZ2.get 7 (f:=Lr n q s) rfl).n (hK _ _ ?_)))
     simp only [Stop,Act.put,zzC,zzD,zzE]
     go_wp2_with (refine zso rfl (fun K hK=>wp_lssi (.tmp 38) (.tmp 41) rfl rfl rfl (r:=true) (decide_eq_true (by omega)) (hK _ _ ?_)))
     simp only [Stop,Act.put,zzC,zzD,zzE]
     go_wp2
     obtain ⟨XR10,hZ29⟩:∃ Xr,Zs w wr X0 Xr ([(bk4,#[po.v,o6.v,.bool q1.b,.slice q1.a q1.n q1.c],45),(bk3,#[.slice none 0 0,.slice none 0 0,.bool false,.slice none 0 0],45)]++(owl ro Cr 43++(owl po Cp 40++owl o6 C6 43))) [Fl 2 (ENr ((fun i j=>P i j+G i j) i)) j Cr,Fl 1 (ERr (fun _=>n) (fun i j=>P i j+G i j)) i Cp,Fl 2 (ENr (fun i=>q i+u i)) (i+1) C6,q1.ir,Cf bk1 #[p.v,s.v,.bool c.b,.slice c.a c.n c.c] 45,Cf bk2 #[g.v,s2.v,.bool d.b,.slice d.a d.n d.c] 45,Mr n (fun _=>n) P p,Lr n q s,Mr n (fun _=>n) G g,Lr n u s2]:=⟨_,hZ2⟩
     clear hZ2
     refine zrq 19 [some 45,some 46,some 47,some 48,some 49,some 50,some 51,some 52,some 53,some 54,some 55,some 56,some 57,some 58,some 59,some 60,some 61,some 62,some 63] [veq (ro.v),veq (.pointer (some ⟨bk1,0,none⟩)),veq (p.v),veq (.int .i64 (((i:Nat):Int))),veq ((p.at 1 i)),vlsr n (P i),veq (.int .i64 (((j:Nat):Int))),vatr n (P i) j,vnumr (P i j),veq (.pointer (some ⟨bk2,0,none⟩)),veq (g.v),veq (.int .i64 (((i:Nat):Int))),veq ((g.at 1 i)),vlsr n (G i),veq (.int .i64 (((j:Nat):Int))),vatr n (G i) j,vnumr (G i j),vnumr ((P i j)+(G i j)),vlsr 1 (fun _=>(P i j)+(G i j))] (by kernel_rfl) (by kernel_rfl) (by rfl) (by decide) (by rfl) hZ29 ?_ ?_
     ·
      intro iq hlq hiq LL uu ww aa hLi hLc hJ hd hall hev hin hold
      clear hZ29
      obtain rfl | rfl | rfl | rfl | rfl | rfl | rfl | rfl | rfl | rfl | rfl | rfl | rfl | rfl | rfl | rfl | rfl | rfl | rfl:iq=0∨iq=1∨iq=2∨iq=3∨iq=4∨iq=5∨iq=6∨iq=7∨iq=8∨iq=9∨iq=10∨iq=11∨iq=12∨iq=13∨iq=14∨iq=15∨iq=16∨iq=17∨iq=18:=by omega
      ·
       exact oz rfl (fun _ hK=>wp_move (.tmp 7) rfl (zet ((hev 7 (by decide)).trans rfl)) (hK _ _ hJ rfl vsm))
      ·
       exact oz rfl (fun _ hK=>wp_fda (v:=.pointer (some ⟨bk1,0,none⟩)) 45 (.tmp 2) 0 rfl (zet ((hev 2 (by decide)).trans rfl)) (fun _=>by kernel_rfl) (hK _ _ hJ rfl vsm))
      ·
       exact oz rfl (fun _ hK=>wp_load1 (v:=p.v) 39 (.tmp 46) rfl bk1 0 #[p.v,s.v,.bool c.b,.slice c.a c.n c.c] 45 (hJ.get 4 (f:=Cf bk1 #[p.v,s.v,.bool c.b,.slice c.a c.n c.c] 45) rfl).1 (zj (hin 1 46 rfl) (show uu 1=.pointer (some ⟨bk1,0,none⟩) from (hd 1 (by kernel_rfl)))) ag39 (by kernel_rfl) (hK _ _ hJ rfl vsm))
      ·
       exact oz rfl (fun _ hK=>wp_move (.tmp 6) rfl (zet ((hev 6 (by decide)).trans rfl)) (hK _ _ hJ rfl vsm))
      ·
       exact oz rfl (fun _ hK=>wp_ixs 39 (.tmp 47) (.tmp 48) p i 1 40 rfl (zj (hin 2 47 rfl) (show uu 2=p.v from (hd 2 (by kernel_rfl)))) (zj (hin 3 48 rfl) (show uu 3=.int .i64 (((i:Nat):Int)) from (hd 3 (by kernel_rfl)))) (by kernel_rfl) sz40 (fun h=>((hJ.get 6 (f:=Mr n (fun _=>n) P p) rfl).sq.nil h).1) ((hJ.get 6 (f:=Mr n (fun _=>n) P p) rfl).n ▸ (by omega)) (hK _ _ hJ rfl vsm))
      ·
       exact oz rfl (fun _ hK=>wp_ldmr 40 (.tmp 49) p i n (fun _=>n) P rfl (zj (hin 4 49 rfl) (show uu 4=(p.at 1 i) from (hd 4 (by kernel_rfl)))) (hJ.get 6 (f:=Mr n (fun _=>n) P p) rfl) (by omega) ag40 (fun s7 hi_s7=>hK _ _ hJ ⟨s7,rfl,hi_s7⟩ vsm))
      ·
       exact oz rfl (fun _ hK=>wp_move (.tmp 8) rfl (zet ((hev 8 (by decide)).trans rfl)) (hK _ _ hJ rfl vsm))
      ·
       obtain ⟨s7,e5,hi_s7⟩:=(show (vlsr n (P i)) (uu 5) XR10 ww from (hd 5 (by kernel_rfl)))
       replace hJ:=hJ.more (f:=Lr n (P i) s7) (Lr.stb _ _ _) hi_s7
       exact oz rfl (fun _ hK=>wp_ixs 40 (.tmp 50) (.tmp 51) s7 j 2 43 rfl (zj (hin 5 50 rfl) e5) (zj (hin 6 51 rfl) (show uu 6=.int .i64 (((j:Nat):Int)) from (hd 6 (by kernel_rfl)))) (by kernel_rfl) sz43 (fun h=>((hJ.get 0 (f:=Lr n (P i) s7) rfl).sq.nil h).1) ((hJ.get 0 (f:=Lr n (P i) s7) rfl).n ▸ (by omega)) (hK _ _ (hJ.only [Fl 2 (ENr ((fun i j=>P i j+G i j) i)) j Cr,Fl 1 (ERr (fun _=>n) (fun i j=>P i j+G i j)) i Cp,Fl 2 (ENr (fun i=>q i+u i)) (i+1) C6,q1.ir,Cf bk1 #[p.v,s.v,.bool c.b,.slice c.a c.n c.c] 45,Cf bk2 #[g.v,s2.v,.bool d.b,.slice d.a d.n d.c] 45,Mr n (fun _=>n) P p,Lr n q s,Mr n (fun _=>n) G g,Lr n u s2] (by simp)) ⟨s7,rfl,hi_s7⟩ vsm))
      ·
       obtain ⟨s7,e7,hi_s7⟩:=(show (vatr n (P i) j) (uu 7) XR10 ww from (hd 7 (by kernel_rfl)))
       replace hJ:=hJ.more (f:=Lr n (P i) s7) (Lr.stb _ _ _) hi_s7
       exact oz rfl (fun _ hK=>wp_ldnr 43 (.tmp 52) s7 j n (P i) rfl (zj (hin 7 52 rfl) e7) (hJ.get 0 (f:=Lr n (P i) s7) rfl) (by omega) ag43 sz43 (fun q8 ez_q8 hi_q8=>hK _ _ (hJ.only [Fl 2 (ENr ((fun i j=>P i j+G i j) i)) j Cr,Fl 1 (ERr (fun _=>n) (fun i j=>P i j+G i j)) i Cp,Fl 2 (ENr (fun i=>q i+u i)) (i+1) C6,q1.ir,Cf bk1 #[p.v,s.v,.bool c.b,.slice c.a c.n c.c] 45,Cf bk2 #[g.v,s2.v,.bool d.b,.slice d.a d.n d.c] 45,Mr n (fun _=>n) P p,Lr n q s,Mr n (fun _=>n) G g,Lr n u s2] (by simp)) ⟨q8,rfl,ez_q8,hi_q8⟩ vsm))
      ·
       exact oz rfl (fun _ hK=>wp_fda (v:=.pointer (some ⟨bk2,0,none⟩)) 45 (.tmp 3) 0 rfl (zet ((hev 3 (by decide)).trans rfl)) (fun _=>by kernel_rfl) (hK _ _ hJ rfl vsm))
      ·
       exact oz rfl (fun _ hK=>wp_load1 (v:=g.v) 39 (.tmp 54) rfl bk2 0 #[g.v,s2.v,.bool d.b,.slice d.a d.n d.c] 45 (hJ.get 5 (f:=Cf bk2 #[g.v,s2.v,.bool d.b,.slice d.a d.n d.c] 45) rfl).1 (zj (hin 9 54 rfl) (show uu 9=.pointer (some ⟨bk2,0,none⟩) from (hd 9 (by kernel_rfl)))) ag39 (by kernel_rfl) (hK _ _ hJ rfl vsm))
      ·
       exact oz rfl (fun _ hK=>wp_move (.tmp 6) rfl (zet ((hev 6 (by decide)).trans rfl)) (hK _ _ hJ rfl vsm))
      ·
       exact oz rfl (fun _ hK=>wp_ixs 39 (.tmp 55) (.tmp 56) g i 1 40 rfl (zj (hin 10 55 rfl) (show uu 10=g.v from (hd 10 (by kernel_rfl)))) (zj (hin 11 56 rfl) (show uu 11=.int .i64 (((i:Nat):Int)) from (hd 11 (by kernel_rfl)))) (by kernel_rfl) sz40 (fun h=>((hJ.get 8 (f:=Mr n (fun _=>n) G g) rfl).sq.nil h).1) ((hJ.get 8 (f:=Mr n (fun _=>n) G g) rfl).n ▸ (by omega)) (hK _ _ hJ rfl vsm))
      ·
       exact oz rfl (fun _ hK=>wp_ldmr 40 (.tmp 57) g i n (fun _=>n) G rfl (zj (hin 12 57 rfl) (show uu 12=(g.at 1 i) from (hd 12 (by kernel_rfl)))) (hJ.get 8 (f:=Mr n (fun _=>n) G g) rfl) (by omega) ag40 (fun s9 hi_s9=>hK _ _ hJ ⟨s9,rfl,hi_s9⟩ vsm))
      ·
       exact oz rfl (fun _ hK=>wp_move (.tmp 8) rfl (zet ((hev 8 (by decide)).trans rfl)) (hK _ _ hJ rfl vsm))
      ·
       obtain ⟨s9,e13,hi_s9⟩:=(show (vlsr n (G i)) (uu 13) XR10 ww from (hd 13 (by kernel_rfl)))
       replace hJ:=hJ.more (f:=Lr n (G i) s9) (Lr.stb _ _ _) hi_s9
       exact oz rfl (fun _ hK=>wp_ixs 40 (.tmp 58) (.tmp 59) s9 j 2 43 rfl (zj (hin 13 58 rfl) e13) (zj (hin 14 59 rfl) (show uu 14=.int .i64 (((j:Nat):Int)) from (hd 14 (by kernel_rfl)))) (by kernel_rfl) sz43 (fun h=>((hJ.get 0 (f:=Lr n (G i) s9) rfl).sq.nil h).1) ((hJ.get 0 (f:=Lr n (G i) s9) rfl).n ▸ (by omega)) (hK _ _ (hJ.only [Fl 2 (ENr ((fun i j=>P i j+G i j) i)) j Cr,Fl 1 (ERr (fun _=>n) (fun i j=>P i j+G i j)) i Cp,Fl 2 (ENr (fun i=>q i+u i)) (i+1) C6,q1.ir,Cf bk1 #[p.v,s.v,.bool c.b,.slice c.a c.n c.c] 45,Cf bk2 #[g.v,s2.v,.bool d.b,.slice d.a d.n d.c] 45,Mr n (fun _=>n) P p,Lr n q s,Mr n (fun _=>n) G g,Lr n u s2] (by simp)) ⟨s9,rfl,hi_s9⟩ vsm))
      ·
       obtain ⟨s9,e15,hi_s9⟩:=(show (vatr n (G i) j) (uu 15) XR10 ww from (hd 15 (by kernel_rfl)))
       replace hJ:=hJ.more (f:=Lr n (G i) s9) (Lr.stb _ _ _) hi_s9
       exact oz rfl (fun _ hK=>wp_ldnr 43 (.tmp 60) s9 j n (G i) rfl (zj (hin 15 60 rfl) e15) (hJ.get 0 (f:=Lr n (G i) s9) rfl) (by omega) ag43 sz43 (fun q10 ez_q10 hi_q10=>hK _ _ (hJ.only [Fl 2 (ENr ((fun i j=>P i j+G i j) i)) j Cr,Fl 1 (ERr (fun _=>n) (fun i j=>P i j+G i j)) i Cp,Fl 2 (ENr (fun i=>q i+u i)) (i+1) C6,q1.ir,Cf bk1 #[p.v,s.v,.bool c.b,.slice c.a c.n c.c] 45,Cf bk2 #[g.v,s2.v,.bool d.b,.slice d.a d.n d.c] 45,Mr n (fun _=>n) P p,Lr n q s,Mr n (fun _=>n) G g,Lr n u s2] (by simp)) ⟨q10,rfl,ez_q10,hi_q10⟩ vsm))
      ·
       obtain ⟨q8,e8,ez_q8,hi_q8⟩:=(show (vnumr (P i j)) (uu 8) XR10 ww from (hd 8 (by kernel_rfl)))
       obtain ⟨q10,e16,ez_q10,hi_q10⟩:=(show (vnumr (G i j)) (uu 16) XR10 ww from (hd 16 (by kernel_rfl)))
       replace hJ:=hJ.more (f:=q8.ir) q8.stbr hi_q8
       replace hJ:=hJ.more (f:=q10.ir) q10.stbr hi_q10
       refine oz rfl (fun _ hK=>zcz (.func 55) #[.tmp 53,.tmp 61] #[43,43] 55 #[] #[q8.v,q10.v] _ rfl rfl (map2 (zj (hin 8 53 rfl) e8) (zj (hin 16 61 rfl) e16)) rfl (fun _ _=>rfl) (zAddr hJ.nx (hJ.get 1 (f:=q8.ir) rfl) (hJ.get 0 (f:=q10.ir) rfl) ez_q8 ez_q10 ((fun k hk=>bP i k (by omega) hk) j (by omega)) ((fun k hk=>bG i k (by omega) hk) j (by omega)) (by omega) (by omega)) ?_)
       rintro zz ww2 ⟨q11,rfl,ez_q11,hi_q11,hB⟩
       exact ⟨_,rfl,hK _ _ ((hJ.only [Fl 2 (ENr ((fun i j=>P i j+G i j) i)) j Cr,Fl 1 (ERr (fun _=>n) (fun i j=>P i j+G i j)) i Cp,Fl 2 (ENr (fun i=>q i+u i)) (i+1) C6,q1.ir,Cf bk1 #[p.v,s.v,.bool c.b,.slice c.a c.n c.c] 45,Cf bk2 #[g.v,s2.v,.bool d.b,.slice d.a d.n d.c] 45,Mr n (fun _=>n) P p,Lr n q s,Mr n (fun _=>n) G g,Lr n u s2] (by simp)).later hB) ⟨q11,rfl,ez_q11,hi_q11⟩ (vlat hB)⟩
      ·
       obtain ⟨q11,e17,ez_q11,hi_q11⟩:=(show (vnumr ((P i j)+(G i j))) (uu 17) XR10 ww from (hd 17 (by kernel_rfl)))
       replace hJ:=hJ.more (f:=q11.ir) q11.stbr hi_q11
       exact oz rfl (fun _ hK=>wp_bsnr ei40 (.tmp 62) q11 rfl (zj (hin 17 62 rfl) e17) hJ hi_q11 (fun s12 ww2 hB hzb=>hK _ _ (hzb.only [Fl 2 (ENr ((fun i j=>P i j+G i j) i)) j Cr,Fl 1 (ERr (fun _=>n) (fun i j=>P i j+G i j)) i Cp,Fl 2 (ENr (fun i=>q i+u i)) (i+1) C6,q1.ir,Cf bk1 #[p.v,s.v,.bool c.b,.slice c.a c.n c.c] 45,Cf bk2 #[g.v,s2.v,.bool d.b,.slice d.a d.n d.c] 45,Mr n (fun _=>n) P p,Lr n q s,Mr n (fun _=>n) G g,Lr n u s2] (by simp)) ⟨s12,rfl,(hzb.get 0 (f:=Lr 1 (fun _=>q11.z) s12) rfl).congr (fun _ _=>ez_q11)⟩ (vlat hB)))
     clear hZ29
     intro uu W10 hZ30 hd
     have e_0:uu 0=ro.v:=hd 0 (by decide)
     have e_1:uu 1=.pointer (some ⟨bk1,0,none⟩):=hd 1 (by decide)
     have e_2:uu 2=p.v:=hd 2 (by decide)
     have e_3:uu 3=.int .i64 (((i:Nat):Int)):=hd 3 (by decide)
     have e_4:uu 4=(p.at 1 i):=hd 4 (by decide)
     obtain ⟨s7,e_5,hi_s7⟩:=(show (vlsr n (P i)) (uu 5) XR10 W10 from hd 5 (by decide))
     have e_6:uu 6=.int .i64 (((j:Nat):Int)):=hd 6 (by decide)
     obtain ⟨s7_7,e_7,hi_s7_7⟩:=(show (vatr n (P i) j) (uu 7) XR10 W10 from hd 7 (by decide))
     obtain ⟨q8,e_8,ez_q8,hi_q8⟩:=(show (vnumr (P i j)) (uu 8) XR10 W10 from hd 8 (by decide))
     have e_9:uu 9=.pointer (some ⟨bk2,0,none⟩):=hd 9 (by decide)
     have e_10:uu 10=g.v:=hd 10 (by decide)
     have e_11:uu 11=.int .i64 (((i:Nat):Int)):=hd 11 (by decide)
     have e_12:uu 12=(g.at 1 i):=hd 12 (by decide)
     obtain ⟨s9,e_13,hi_s9⟩:=(show (vlsr n (G i)) (uu 13) XR10 W10 from hd 13 (by decide))
     have e_14:uu 14=.int .i64 (((j:Nat):Int)):=hd 14 (by decide)
     obtain ⟨s9_15,e_15,hi_s9_15⟩:=(show (vatr n (G i) j) (uu 15) XR10 W10 from hd 15 (by decide))
     obtain ⟨q10,e_16,ez_q10,hi_q10⟩:=(show (vnumr (G i j)) (uu 16) XR10 W10 from hd 16 (by decide))
     obtain ⟨q11,e_17,ez_q11,hi_q11⟩:=(show (vnumr ((P i j)+(G i j))) (uu 17) XR10 W10 from hd 17 (by decide))
     obtain ⟨s12,e_18,hi_s12⟩:=(show (vlsr 1 (fun _=>(P i j)+(G i j))) (uu 18) XR10 W10 from hd 18 (by decide))
     clear hd
     simp only [layS,Act.put,zzC,zzD,zzE,Nat.zero_add,Nat.reduceAdd,List.drop_succ_cons,List.drop_zero,List.drop_nil,e_0,e_1,e_2,e_3,e_4,e_5,e_6,e_7,e_8,e_9,e_10,e_11,e_12,e_13,e_14,e_15,e_16,e_17,e_18]
     clear e_0 e_1 e_2 e_3 e_4 e_5 e_6 e_7 e_8 e_9 e_10 e_11 e_12 e_13 e_14 e_15 e_16 e_17 e_18
     have hZ31:=hZ30.more (f:=Lr n (P i) s7) (Lr.stb _ _ _) hi_s7
     clear hZ30 hi_s7
     have hZ32:=hZ31.more (f:=Lr n (P i) s7_7) (Lr.stb _ _ _) hi_s7_7
     clear hZ31 hi_s7_7
     have hZ33:=hZ32.more (f:=q8.ir) q8.stbr hi_q8
     clear hZ32 hi_q8
     have hZ34:=hZ33.more (f:=Lr n (G i) s9) (Lr.stb _ _ _) hi_s9
     clear hZ33 hi_s9
     have hZ35:=hZ34.more (f:=Lr n (G i) s9_15) (Lr.stb _ _ _) hi_s9_15
     clear hZ34 hi_s9_15
     have hZ36:=hZ35.more (f:=q10.ir) q10.stbr hi_q10
     clear hZ35 hi_q10
     have hZ37:=hZ36.more (f:=q11.ir) q11.stbr hi_q11
     clear hZ36 hi_q11
     have hZ38:=hZ37.more (f:=Lr 1 (fun _=>(P i j)+(G i j)) s12) (Lr.stb _ _ _) hi_s12
     clear hZ37 hi_s12
     obtain ⟨qa13,q13,ea13,ez_q13,hi_q13,hca13⟩:=Lr.one (hZ38.get 0 (f:=Lr 1 (fun _=>(P i j)+(G i j)) s12) rfl)
     have EA13:=Lib.hid ea13
     clear ea13
     have hZ39w:=hZ38.more (f:=q13.ir) q13.stbr hi_q13
     have hZ39y:=hZ39w.perm (perm_mid _ _ _)
     clear hZ39w hi_q13
     go_wp2_with (refine zso rfl (fun K hK=>wp_app ei40 (.tmp 45) (.tmp 63) rfl (s:=ro) rfl qa13 s12.c EA13.out hw_ro (by rw [hn_ro]; omega) hZ39y [.bool q13.b,.slice q13.a q13.n q13.c] rfl hca13 (fun u hu=>by simp only [List.mem_cons,List.not_mem_nil,or_false] at hu; rcases hu with rfl | rfl <;> rfl) (fun o13 C13 X39 W11 hn_o13 hw_o13 ho_C13 hg_C13 hZ39x=>hK _ _ ?_)))
     simp only [Stop,Act.put,zzC,zzD,zzE]
     clear hZ39y hca13 EA13
     rw [hn_ro] at hn_o13 ho_C13 hg_C13
     have hZ39:=hZ39x.perm (List.Perm.symm (perm_mid _ _ _))
     clear hZ39x hZ38
     have hZ40s:Fl 2 (ENr ((fun i j=>P i j+G i j) i)) (j+1) C13 X39 W11:=Fl.snoc (C:=Cr) (hZ39.get 9 (f:=Fl 2 (ENr ((fun i j=>P i j+G i j) i)) j Cr) rfl) (cs:=[.bool q13.b,.slice q13.a q13.n q13.c]) rfl ho_C13 hg_C13 ⟨q13,ez_q13.trans (by rfl),(hZ39.get 0 (f:=q13.ir) rfl),rfl⟩
     have hZ40:=(hZ39.more (Fl.stb (ENr.stb _) _ _) hZ40s).only [Fl 2 (ENr ((fun i j=>P i j+G i j) i)) (j+1) C13,Fl 1 (ERr (fun _=>n) (fun i j=>P i j+G i j)) i Cp,Fl 2 (ENr (fun i=>q i+u i)) (i+1) C6,q1.ir,Cf bk1 #[p.v,s.v,.bool c.b,.slice c.a c.n c.c] 45,Cf bk2 #[g.v,s2.v,.bool d.b,.slice d.a d.n d.c] 45,Mr n (fun _=>n) P p,Lr n q s,Mr n (fun _=>n) G g,Lr n u s2] (by simp)
     clear hZ39 hZ40s
     go_wp2_with (refine zso rfl (fun K hK=>wp_addi (.tmp 43) (.const (.int .i64 1)) rfl rfl rfl (C:=((j+1:Nat):Int)) (by omega) (by omega) (by omega) (hK _ _ ?_)))
     simp only [Stop,Act.put,zzC,zzD,zzE]
     go_wp2
     go_roundw
     case rel=>exact ⟨j+1,o13,C13,_,by omega,by go_num,rfl,hn_o13,hw_o13,hZ40⟩
     case measure=>simp [intOf]; omega
    ·
     obtain rfl:n=j:=by omega
     go_wp2_with (refine zso rfl (fun K hK=>wp_fda (v:=.pointer (some ⟨bk1,1,none⟩)) 45 (.tmp 2) 1 rfl rfl (fun _=>by kernel_rfl) (hK _ _ ?_)))
     simp only [Stop,Act.put,zzC,zzD,zzE]
     go_wp2_with (refine zso rfl (fun K hK=>wp_load1 (v:=s.v) 40 (.tmp 39) rfl bk1 1 #[p.v,s.v,.bool c.b,.slice c.a c.n c.c] 45 (hZ2.get 4 (f:=Cf bk1 #[p.v,s.v,.bool c.b,.slice c.a c.n c.c] 45) rfl).1 rfl ag40 (by kernel_rfl) (hK _ _ ?_)))
     simp only [Stop,Act.put,zzC,zzD,zzE]
     go_wp2_with (refine zso rfl (fun K hK=>wp_lenq (.tmp 40) 40 43 s rfl (by kernel_rfl) rfl (hZ2.get 7 (f:=Lr n q s) rfl).n (hK _ _ ?_)))
     simp only [Stop,Act.put,zzC,zzD,zzE]
     go_wp2_with (refine zso rfl (fun K hK=>wp_lssi (.tmp 38) (.tmp 41) rfl rfl rfl (r:=false) (decide_eq_false (Int.lt_irrefl _)) (hK _ _ ?_)))
     simp only [Stop,Act.put,zzC,zzD,zzE]
     obtain ⟨XT,hZ41⟩:=Zs.tellr (hZ2.perm (perm_mid _ _ _)) hX hw_ro hn_ro (hZ2.get 0 (f:=Fl 2 (ENr ((fun i j=>P i j+G i j) i)) n Cr) rfl)
     clear hZ2
     have hZ42:=hZ41.only [Lr n ((fun i j=>P i j+G i j) i) ro,Fl 1 (ERr (fun _=>n) (fun i j=>P i j+G i j)) i Cp,Fl 2 (ENr (fun i=>q i+u i)) (i+1) C6,q1.ir,Cf bk1 #[p.v,s.v,.bool c.b,.slice c.a c.n c.c] 45,Cf bk2 #[g.v,s2.v,.bool d.b,.slice d.a d.n d.c] 45,Mr n (fun _=>n) P p,Lr n q s,Mr n (fun _=>n) G g,Lr n u s2] (by simp)
     clear hZ41
     go_wp2_with (refine zso rfl (fun K hK=>wp_fda (v:=.pointer (some ⟨bk4,0,none⟩)) 45 (.tmp 5) 0 rfl rfl (fun _=>by kernel_rfl) (hK _ _ ?_)))
     simp only [Stop,Act.put,zzC,zzD,zzE]
     go_wp2_with (refine zso rfl (fun K hK=>wp_load1 (v:=po.v) 39 (.tmp 65) rfl bk4 0 #[po.v,o6.v,.bool q1.b,.slice q1.a q1.n q1.c] 45 (hZ42.es.at' _ (zzG (i:=0) rfl)) rfl ag39 (by kernel_rfl) (hK _ _ ?_)))
     simp only [Stop,Act.put,zzC,zzD,zzE]
     go_wp2_with (refine zso rfl (fun K hK=>wp_bs1 ei39 (.tmp 67) rfl rfl rfl (hK _ _ ?_)))
     simp only [Stop,Act.put,zzC,zzD,zzE]
     have hZ43:=hZ42.later (below_new _ (.cells #[ro.v] 40))
     clear hZ42
     have hZ44y:=hZ43.perm (perm_mid _ _ _)
     go_wp2_with (refine zso rfl (fun K hK=>wp_app ei39 (.tmp 66) (.tmp 68) rfl (s:=po) rfl ⟨wr.heap.size,0,none⟩ 1 rfl hw_po (by rw [hn_po]; omega) hZ44y [ro.v] rfl (cell_one _ ro.v _) (fun u hu=>by simp only [List.mem_cons,List.not_mem_nil,or_false] at hu; subst hu; rfl) (fun o14 C14 X44 W12 hn_o14 hw_o14 ho_C14 hg_C14 hZ44x=>hK _ _ ?_)))
     simp only [Stop,Act.put,zzC,zzD,zzE]
     clear hZ44y
     rw [hn_po] at hn_o14 ho_C14 hg_C14
     have hZ44:=hZ44x.perm (List.Perm.symm (perm_mid _ _ _))
     clear hZ44x hZ43
     go_wp2_with (refine zso rfl (fun K hK=>wp_fda (v:=.pointer (some ⟨bk4,0,none⟩)) 45 (.tmp 5) 0 rfl rfl (fun _=>by kernel_rfl) (hK _ _ ?_)))
     simp only [Stop,Act.put,zzC,zzD,zzE]
     go_wp2_with (refine zss 39 (.tmp 70) (.tmp 69) 0 bk4 0 #[po.v,o6.v,.bool q1.b,.slice q1.a q1.n q1.c] 45 1 [o14.v] #[o14.v,o6.v,.bool q1.b,.slice q1.a q1.n q1.c] ([(bk4,#[o14.v,o6.v,.bool q1.b,.slice q1.a q1.n q1.c],45),(bk3,#[.slice none 0 0,.slice none 0 0,.bool false,.slice none 0 0],45)]++(owl o14 C14 40++owl o6 C6 43)) rfl rfl rfl rfl sz39 hZ44 rfl rfl (zzF (by kernel_rfl)) (by kernel_rfl) (by kernel_rfl) (by kernel_rfl) (fun W13 hZ45=>?_))
     clear hZ44
     simp only [Stop,Act.put,zzC,zzD,zzE]
     have hZ46s:Fl 1 (ERr (fun _=>n) (fun i j=>P i j+G i j)) (i+1) C14 X44 W13:=Fl.snoc (C:=Cp) (hZ45.get 1 (f:=Fl 1 (ERr (fun _=>n) (fun i j=>P i j+G i j)) i Cp) rfl) (cs:=[ro.v]) rfl ho_C14 hg_C14 ⟨ro,(hZ45.get 0 (f:=Lr n ((fun i j=>P i j+G i j) i) ro) rfl),rfl⟩
     have hZ46:=(hZ45.more (Fl.stb (ERr.stb _ _) _ _) hZ46s).only [Fl 1 (ERr (fun _=>n) (fun i j=>P i j+G i j)) (i+1) C14,Fl 2 (ENr (fun i=>q i+u i)) (i+1) C6,q1.ir,Cf bk1 #[p.v,s.v,.bool c.b,.slice c.a c.n c.c] 45,Cf bk2 #[g.v,s2.v,.bool d.b,.slice d.a d.n d.c] 45,Mr n (fun _=>n) P p,Lr n q s,Mr n (fun _=>n) G g,Lr n u s2] (by simp)
     clear hZ45 hZ46s
     go_wp2_with (refine zso rfl (fun K hK=>wp_addi (.tmp 20) (.const (.int .i64 1)) rfl rfl rfl (C:=((i+1:Nat):Int)) (by omega) (by omega) (by omega) (hK _ _ ?_)))
     simp only [Stop,Act.put,zzC,zzD,zzE]
     go_wp2
     go_roundw
     case rel=>exact ⟨i+1,o14,o6,C14,C6,_,by omega,by go_num,hn_o14,hw_o14,hn_o6,hw_o6,hZ46⟩
     case measure=>simp [intOf]; omega
  ·
   obtain rfl:n=i:=by omega
   go_wp2_with (refine zso rfl (fun K hK=>wp_fda (v:=.pointer (some ⟨bk1,1,none⟩)) 45 (.tmp 2) 1 rfl rfl (fun _=>by kernel_rfl) (hK _ _ ?_)))
   simp only [Stop,Act.put,zzC,zzD,zzE]
   go_wp2_with (refine zso rfl (fun K hK=>wp_load1 (v:=s.v) 40 (.tmp 16) rfl bk1 1 #[p.v,s.v,.bool c.b,.slice c.a c.n c.c] 45 (hZ.get 3 (f:=Cf bk1 #[p.v,s.v,.bool c.b,.slice c.a c.n c.c] 45) rfl).1 rfl ag40 (by kernel_rfl) (hK _ _ ?_)))
   simp only [Stop,Act.put,zzC,zzD,zzE]
   go_wp2_with (refine zso rfl (fun K hK=>wp_lenq (.tmp 17) 40 43 s rfl (by kernel_rfl) rfl (hZ.get 6 (f:=Lr n q s) rfl).n (hK _ _ ?_)))
   simp only [Stop,Act.put,zzC,zzD,zzE]
   go_wp2_with (refine zso rfl (fun K hK=>wp_lssi (.tmp 15) (.tmp 18) rfl rfl rfl (r:=false) (decide_eq_false (Int.lt_irrefl _)) (hK _ _ ?_)))
   simp only [Stop,Act.put,zzC,zzD,zzE]
   go_wp2_with (refine zso rfl (fun K hK=>wp_load 45 (.tmp 5) rfl bk4 0 4 #[po.v,so.v,.bool q1.b,.slice q1.a q1.n q1.c] #[po.v,so.v,.bool q1.b,.slice q1.a q1.n q1.c] 45 (hZ.es.at' _ (zzG (i:=0) rfl)) rfl ag45 sz45 (zzF (by kernel_rfl)) (by kernel_rfl) (hK _ _ ?_)))
   simp only [Stop,Act.put,zzC,zzD,zzE]
   go_wp2_with (refine zss 45 (.tmp 4) (.tmp 71) 1 bk3 0 #[.slice none 0 0,.slice none 0 0,.bool false,.slice none 0 0] 45 4 [po.v,so.v,.bool q1.b,.slice q1.a q1.n q1.c] #[po.v,so.v,.bool q1.b,.slice q1.a q1.n q1.c] ([(bk4,#[po.v,so.v,.bool q1.b,.slice q1.a q1.n q1.c],45),(bk3,#[po.v,so.v,.bool q1.b,.slice q1.a q1.n q1.c],45)]++(owl po Cp 40++owl so Cs 43)) rfl rfl rfl rfl sz45 hZ rfl rfl (zzF (by kernel_rfl)) (by kernel_rfl) (by kernel_rfl) (by kernel_rfl) (fun W14 hZ47=>?_))
   clear hZ
   simp only [Stop,Act.put,zzC,zzD,zzE]
   go_wp2
   exact bodyPost_ret (v:=.agg #[po.v,so.v,.bool q1.b,.slice q1.a q1.n q1.c]) (results_cell 1 Tryz.results25 hZ47.es rfl ag45 sz45 (zzF (by kernel_rfl)) rfl (by kernel_rfl)) rfl ⟨po,so,q1,rfl,⟨hn_po,hZ47.sq hX (ERr.stb _ _) hw_po (T:=40) (fun p hp=>List.mem_append_right _ (List.mem_append_left _ hp)) (hn_po ▸ hZ47.get 0 (f:=Fl 1 (ERr (fun _=>n) (fun i j=>P i j+G i j)) n Cp) rfl)⟩,⟨hn_so,hZ47.sq hX (ENr.stb _) hw_so (T:=43) (fun p hp=>List.mem_append_right _ (List.mem_append_right _ hp)) (hn_so ▸ hZ47.get 1 (f:=Fl 2 (ENr (fun i=>q i+u i)) n Cs) rfl)⟩,ez_q1,(hZ47.out 2 (f:=q1.ir) rfl),hZ47.below⟩
end Go.Proofs.YtjclllindbfmhaaGreatDoor
