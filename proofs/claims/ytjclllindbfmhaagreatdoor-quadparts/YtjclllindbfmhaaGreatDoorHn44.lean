/- Parts of the proof. -/
import Derived.Test.YtjclllindbfmhaaGreatDoorHn0
import Derived.Test.YtjclllindbfmhaaGreatDoorHn42
import Derived.Test.YtjclllindbfmhaaGreatDoorHn36
import Derived.Test.YtjclllindbfmhaaGreatDoorHn38
import Derived.Test.YtjclllindbfmhaaGreatDoorHn23
import Derived.Test.YtjclllindbfmhaaGreatDoorHn37
set_option linter.unusedSimpArgs false
set_option linter.unusedVariables false
namespace Go.Proofs.YtjclllindbfmhaaGreatDoor
/- The document's Sub, Apply, Value, Slope of layer 8, walked. No statement of the seat is proved here. -/
open Go Go.RowKit
theorem Sz.subm {e f:Nat} {x y:Int} (h:Sz e x) (k:Sz f y):Sz (e+f+1) (x - y):=(h.mono (Nat.le_add_right e f)).minus (k.mono (Nat.le_add_left f e))
set_option maxRecDepth 100000 in
set_option maxHeartbeats 12800000 in
theorem dSub {X0:Nat→Prop} {w:World} (hX:NX X0 w) (p q:NL) {x y:Int} {e f:Nat} (hp:p.ir X0 w) (hq:q.ir X0 w) (ex:p.z=x) (ey:q.z=y) (bx:Sz e x) (by_:Sz f y) (he:e≤800000) (hf:f≤800000):Calls Tryz.prog 57 #[p.v,q.v] w (PNXr X0 (x - y) w):=by
 have hZ0:=zs_start hX
 have hZ1:=hZ0.more (f:=q.ir) q.stbr hq
 clear hZ0
 have hZ2:=hZ1.more (f:=p.ir) p.stbr hp
 clear hZ1
 go_enter Tryz.func57,Tryz.ntmps57
 have ez_p:=ex
 have ez_q:=ey
 go_wp2_with (refine zsb 43 (.tmp 0) #[.bool p.b,.slice p.a p.n p.c] rfl rfl rfl hZ2 (fun bk1 X3 W1 hZ3=>?_))
 clear hZ2
 simp only [Stop,Act.put,zzC,zzD,zzE]
 go_wp2_with (refine zsb 43 (.tmp 1) #[.bool q.b,.slice q.a q.n q.c] rfl rfl rfl hZ3 (fun bk2 X4 W2 hZ4=>?_))
 clear hZ3
 simp only [Stop,Act.put,zzC,zzD,zzE]
 go_wp2_with (refine zsa 43 #[.bool false,.slice none 0 0] (.agg #[.bool false,.slice none 0 0]) rfl rfl zv43 rfl hZ4 (fun bk3 X5 W3 hZ5=>?_))
 clear hZ4
 simp only [Stop,Act.put,zzC,zzD,zzE]
 go_wp2
 obtain ⟨XR1,hZ6⟩:∃ Xr,Zs w W3 X0 Xr [(bk3,#[.bool false,.slice none 0 0],43),(bk2,#[.bool q.b,.slice q.a q.n q.c],43),(bk1,#[.bool p.b,.slice p.a p.n p.c],43)] [p.ir,q.ir]:=⟨_,hZ5⟩
 clear hZ5
 refine zrp 4 [some 5,some 6,some 7,some 8] [veq (p.v),veq (q.v),vnumr (-y),vnumr (x+(-y))] (by kernel_rfl) (by kernel_rfl) (by rfl) (by decide) (by rfl) hZ6 ?_ ?_
 ·
  intro iq hlq hiq LL uu ww aa hLi hLc hJ hd hall hev hin hold
  clear hZ6
  obtain rfl | rfl | rfl | rfl:iq=0∨iq=1∨iq=2∨iq=3:=by omega
  ·
   exact oz rfl (fun _ hK=>wp_load 43 (.tmp 2) rfl bk1 0 2 #[.bool p.b,.slice p.a p.n p.c] #[.bool p.b,.slice p.a p.n p.c] 43 (hJ.es.at' _ (zzG (i:=2) rfl)) (zet ((hev 2 (by decide)).trans rfl)) ag43 sz43 (zzF (by kernel_rfl)) (by kernel_rfl) (hK _ _ hJ rfl vsm))
  ·
   exact oz rfl (fun _ hK=>wp_load 43 (.tmp 3) rfl bk2 0 2 #[.bool q.b,.slice q.a q.n q.c] #[.bool q.b,.slice q.a q.n q.c] 43 (hJ.es.at' _ (zzG (i:=1) rfl)) (zet ((hev 3 (by decide)).trans rfl)) ag43 sz43 (zzF (by kernel_rfl)) (by kernel_rfl) (hK _ _ hJ rfl vsm))
  ·
   refine oz rfl (fun _ hK=>zcz (.func 97) #[.tmp 6] #[43] 97 #[] #[q.v] _ rfl rfl (map1 (zj (hin 1 6 rfl) (show uu 1=q.v from (hd 1 (by kernel_rfl))))) rfl (fun _ _=>rfl) (zNegr (hJ.get 1 (f:=q.ir) rfl) ez_q) ?_)
   rintro zz ww2 ⟨q1,rfl,ez_q1,hi_q1,hB⟩
   exact ⟨_,rfl,hK _ _ (hJ.later hB) ⟨q1,rfl,ez_q1,hi_q1⟩ (vlat hB)⟩
  ·
   obtain ⟨q1,e2,ez_q1,hi_q1⟩:=(show (vnumr (-y)) (uu 2) XR1 ww from (hd 2 (by kernel_rfl)))
   replace hJ:=hJ.more (f:=q1.ir) q1.stbr hi_q1
   refine oz rfl (fun _ hK=>zcz (.func 55) #[.tmp 5,.tmp 7] #[43,43] 55 #[] #[p.v,q1.v] _ rfl rfl (map2 (zj (hin 0 5 rfl) (show uu 0=p.v from (hd 0 (by kernel_rfl)))) (zj (hin 2 7 rfl) e2)) rfl (fun _ _=>rfl) (zAddr hJ.nx (hJ.get 1 (f:=p.ir) rfl) (hJ.get 0 (f:=q1.ir) rfl) ez_p ez_q1 bx (Sz.neg by_) (by omega) (by omega)) ?_)
   rintro zz ww2 ⟨q2,rfl,ez_q2,hi_q2,hB⟩
   exact ⟨_,rfl,hK _ _ ((hJ.only [p.ir,q.ir] (by simp)).later hB) ⟨q2,rfl,ez_q2,hi_q2⟩ (vlat hB)⟩
 clear hZ6
 intro uu W4 hZ7 hd
 have e_0:uu 0=p.v:=hd 0 (by decide)
 have e_1:uu 1=q.v:=hd 1 (by decide)
 obtain ⟨q1,e_2,ez_q1,hi_q1⟩:=(show (vnumr (-y)) (uu 2) XR1 W4 from hd 2 (by decide))
 obtain ⟨q2,e_3,ez_q2,hi_q2⟩:=(show (vnumr (x+(-y))) (uu 3) XR1 W4 from hd 3 (by decide))
 clear hd
 simp only [layS,Act.put,zzC,zzD,zzE,Nat.zero_add,Nat.reduceAdd,List.drop_succ_cons,List.drop_zero,List.drop_nil,e_0,e_1,e_2,e_3]
 clear e_0 e_1 e_2 e_3
 have hZ8:=hZ7.more (f:=q1.ir) q1.stbr hi_q1
 clear hZ7 hi_q1
 have hZ9:=hZ8.more (f:=q2.ir) q2.stbr hi_q2
 clear hZ8 hi_q2
 go_wp2_with (refine zss 43 (.tmp 4) (.tmp 8) 0 bk3 0 #[.bool false,.slice none 0 0] 43 2 [.bool q2.b,.slice q2.a q2.n q2.c] #[.bool q2.b,.slice q2.a q2.n q2.c] [(bk3,#[.bool q2.b,.slice q2.a q2.n q2.c],43),(bk2,#[.bool q.b,.slice q.a q.n q.c],43),(bk1,#[.bool p.b,.slice p.a p.n p.c],43)] rfl rfl rfl rfl sz43 hZ9 rfl rfl (zzF (by kernel_rfl)) (by kernel_rfl) (by kernel_rfl) (by kernel_rfl) (fun W5 hZ10=>?_))
 clear hZ9
 simp only [Stop,Act.put,zzC,zzD,zzE]
 go_wp2
 exact bodyPost_ret (v:=q2.v) (results_cell 0 Tryz.results57 hZ10.es rfl ag43 sz43 (zzF (by kernel_rfl)) rfl (by kernel_rfl)) rfl ⟨q2,rfl,ez_q2.trans (by omega),hZ10.out 0 (f:=q2.ir) rfl,hZ10.below⟩
section
variable {n i k e:Nat} {P:Nat→Nat→Int} {q x:Nat→Int}
end
def vuzr (n:Nat) (P:Nat→Nat→Int) (C:Int):VF:=fun u X W=>∃ (p:Sl) (c:NL),u=.agg #[p.v,.slice none 0 0,.bool c.b,.slice c.a c.n c.c]∧Mr n (fun _=>n) P p X W∧c.z=C∧c.ir X W
theorem vuzr_se (n:Nat) (P:Nat→Nat→Int) (C:Int):VSe (vuzr n P C):=fun _ X W X' W' he ⟨p,c,h1,h2,h3,h4⟩=>⟨p,c,h1,Mr.stb n _ P p X W X' W' he h2,h3,c.stbr X W X' W' he h4⟩
def vuz1r (n:Nat) (P:Nat→Nat→Int) (c:NL):VF:=fun u X W=>∃ p:Sl,u=.agg #[p.v,.slice none 0 0,.bool c.b,.slice c.a c.n c.c]∧Mr n (fun _=>n) P p X W
theorem vuz1r_se (n:Nat) (P:Nat→Nat→Int) (c:NL):VSe (vuz1r n P c):=fun _ X W X' W' he ⟨p,h1,h2⟩=>⟨p,h1,Mr.stb n _ P p X W X' W' he h2⟩
def vczr (C:Int):VF:=fun u X W=>∃ c:NL,u=.agg #[.slice none 0 0,.slice none 0 0,.bool c.b,.slice c.a c.n c.c]∧c.z=C∧c.ir X W
theorem vczr_se (C:Int):VSe (vczr C):=fun _ X W X' W' he ⟨c,h1,h3,h4⟩=>⟨c,h1,h3,c.stbr X W X' W' he h4⟩
instance vq_uzr (n:Nat) (P:Nat→Nat→Int) (C:Int):Vq1 (vuzr n P C):=⟨(vuzr_se n P C).st⟩
instance vq_uz1r (n:Nat) (P:Nat→Nat→Int) (c:NL):Vq1 (vuz1r n P c):=⟨(vuz1r_se n P c).st⟩
instance vq_czr (C:Int):Vq1 (vczr C):=⟨(vczr_se C).st⟩
set_option maxRecDepth 100000 in
set_option maxHeartbeats 12800000 in
theorem dFirst {X0:Nat→Prop} {w:World} (hX:NX X0 w) (p:Sl) (k:Nat) {n:Nat} {P:Nat→Nat→Int} (hp:Mr n (fun _=>n) P p X0 w) (hk:k≤n) (hn:n≤100):Calls Tryz.prog 67 #[p.v,.int .i64 ((k:Nat):Int)] w (PMXr X0 k (fun _=>k) P w):=by
 have hZ0:=zs_start hX
 have hZ1:=hZ0.more (f:=Mr n (fun _=>n) P p) (Mr.stb _ _ _ _) hp
 clear hZ0
 go_enter Tryz.func67,Tryz.ntmps67
 go_wp2
 go_loopw [5,6] (fun ov iv wr=>∃ (i:Nat) (so:Sl) (Co:Array Value) (X:Nat→Prop),i≤k∧iv=.int .i64 ((i:Nat):Int)∧ov=so.v∧so.n=i∧Wr 1 so Co∧Zs w wr X0 X ([]++owl so Co 40) [Fl 1 (ERr (fun _=>k) P) i Co,Mr n (fun _=>n) P p]) (fun _ iv _=>k - (intOf iv).toNat)
 case atStart=>exact ⟨0,slz,#[],_,by omega,rfl,rfl,rfl,wr_slz 1,by simpa [owl,slz] using (hZ1.more (f:=Fl 1 (ERr (fun _=>k) P) 0 #[]) (Fl.stb (ERr.stb _ _) _ _) (fl_zero 1 (ERr (fun _=>k) P) #[] _ _))⟩
 case round =>
  clear hZ1
  obtain ⟨i,so,Co,X,hi,rfl,rfl,hn_so,hw_so,hZ⟩:=hrel
  by_cases hlt:i < k
  ·
   go_wp2_with (refine zso rfl (fun K hK=>wp_lssi (.tmp 7) (.tmp 8) rfl rfl rfl (r:=true) (decide_eq_true (by omega)) (hK _ _ ?_)))
   simp only [Stop,Act.put,zzC,zzD,zzE]
   go_wp2_with (refine zso rfl (fun K hK=>wp_ixs 39 (.tmp 13) (.tmp 14) p i 1 40 rfl rfl rfl (by kernel_rfl) sz40 (fun h=>((hZ.get 1 (f:=Mr n (fun _=>n) P p) rfl).sq.nil h).1) ((hZ.get 1 (f:=Mr n (fun _=>n) P p) rfl).n ▸ (by omega)) (hK _ _ ?_)))
   simp only [Stop,Act.put,zzC,zzD,zzE]
   go_wp2_with (refine zso rfl (fun K hK=>wp_ldmr 40 (.tmp 15) p i n (fun _=>n) P rfl rfl (hZ.get 1 (f:=Mr n (fun _=>n) P p) rfl) (by omega) ag40 (fun s1 hi_s1=>hK _ _ ?_)))
   simp only [Stop,Act.put,zzC,zzD,zzE]
   have hZ2:=hZ.more (f:=Lr n (P i) s1) (Lr.stb _ _ _) hi_s1
   clear hZ hi_s1
   go_wp2_with (refine zso rfl (fun K hK=>wp_slh 40 43 (.tmp 16) (.tmp 17) s1 k rfl rfl rfl (by kernel_rfl) sz43 (hZ2.get 0 (f:=Lr n (P i) s1) rfl) (by omega) (fun s2 hi_s2=>hK _ _ ?_)))
   simp only [Stop,Act.put,zzC,zzD,zzE]
   have hZ3:=hZ2.more (f:=Lr k (P i) s2) (Lr.stb _ _ _) hi_s2
   clear hZ2 hi_s2
   go_wp2_with (refine zso rfl (fun K hK=>wp_bs1 ei39 (.tmp 18) rfl rfl rfl (hK _ _ ?_)))
   simp only [Stop,Act.put,zzC,zzD,zzE]
   have hZ4:=hZ3.later (below_new _ (.cells #[s2.v] 40))
   clear hZ3
   have hZ5y:=hZ4.perm List.perm_append_comm
   go_wp2_with (refine zso rfl (fun K hK=>wp_app ei39 (.tmp 12) (.tmp 19) rfl (s:=so) rfl ⟨wr.heap.size,0,none⟩ 1 rfl hw_so (by rw [hn_so]; omega) hZ5y [s2.v] rfl (cell_one _ s2.v _) (fun u hu=>by simp only [List.mem_cons,List.not_mem_nil,or_false] at hu; subst hu; rfl) (fun o3 C3 X5 W1 hn_o3 hw_o3 ho_C3 hg_C3 hZ5x=>hK _ _ ?_)))
   simp only [Stop,Act.put,zzC,zzD,zzE]
   clear hZ5y
   rw [hn_so] at hn_o3 ho_C3 hg_C3
   have hZ5:=hZ5x.perm List.perm_append_comm
   clear hZ5x hZ4
   have hZ6s:Fl 1 (ERr (fun _=>k) P) (i+1) C3 X5 W1:=Fl.snoc (C:=Co) (hZ5.get 2 (f:=Fl 1 (ERr (fun _=>k) P) i Co) rfl) (cs:=[s2.v]) rfl ho_C3 hg_C3 ⟨s2,(hZ5.get 0 (f:=Lr k (P i) s2) rfl),rfl⟩
   have hZ6:=(hZ5.more (Fl.stb (ERr.stb _ _) _ _) hZ6s).only [Fl 1 (ERr (fun _=>k) P) (i+1) C3,Mr n (fun _=>n) P p] (by simp)
   clear hZ5 hZ6s
   go_wp2_with (refine zso rfl (fun K hK=>wp_addi (.tmp 10) (.const (.int .i64 1)) rfl rfl rfl (C:=((i+1:Nat):Int)) (by omega) (by omega) (by omega) (hK _ _ ?_)))
   simp only [Stop,Act.put,zzC,zzD,zzE]
   go_wp2
   go_roundw
   case rel=>exact ⟨i+1,o3,C3,_,by omega,by go_num,rfl,hn_o3,hw_o3,hZ6⟩
   case measure=>simp [intOf]; omega
  ·
   obtain rfl:k=i:=by omega
   go_wp2_with (refine zso rfl (fun K hK=>wp_lssi (.tmp 7) (.tmp 8) rfl rfl rfl (r:=false) (decide_eq_false (Int.lt_irrefl _)) (hK _ _ ?_)))
   simp only [Stop,Act.put,zzC,zzD,zzE]
   go_wp2
   go_ret
   exact ⟨so,rfl,⟨hn_so,hZ.sq hX (ERr.stb _ _) hw_so (T:=40) (fun p hp=>hp) (hn_so ▸ hZ.get 0 (f:=Fl 1 (ERr (fun _=>k) P) k Co) rfl)⟩,hZ.below⟩
end Go.Proofs.YtjclllindbfmhaaGreatDoor
