/- Parts of the proof. -/
import Derived.Test.YtjclllindbfmhaaGreatDoorHn0
import Derived.Test.YtjclllindbfmhaaGreatDoorHn42
import Derived.Test.YtjclllindbfmhaaGreatDoorHn39
import Derived.Test.YtjclllindbfmhaaGreatDoorHn35
import Derived.Test.YtjclllindbfmhaaGreatDoorHn38
import Derived.Test.YtjclllindbfmhaaGreatDoorHn29
import Derived.Test.YtjclllindbfmhaaGreatDoorHn28
import Derived.Test.YtjclllindbfmhaaGreatDoorHn23
import Derived.Test.YtjclllindbfmhaaGreatDoorHn41
set_option linter.unusedSimpArgs false
set_option linter.unusedVariables false
namespace Go.Proofs.YtjclllindbfmhaaGreatDoor
/- The laws' helper read of layer 8, walked. No statement of the seat is proved here. -/
open Go Go.RowKit
/-- A function, the program's and the document's, and that it is one. -/
def PRdU (X:Nat→Prop) (n:Nat) (P:Nat→Nat→Int) (q:Nat→Int) (C:Int) (w:World) (e:Ending) (w':World):Prop:=∃ (p s:Sl) (c:NL) (p' s':Sl) (c':NL),e=.returned (.tuple #[.agg #[p.v,s.v,.bool c.b,.slice c.a c.n c.c],.agg #[p'.v,s'.v,.bool c'.b,.slice c'.a c'.n c'.c],.bool true])∧Mt n (fun _=>n) P p X w'∧Ls n q s X w'∧c.z=C∧c.is X w'∧Mr n (fun _=>n) P p' X w'∧Lr n q s' X w'∧c'.z=C∧c'.ir X w'∧Below w.heap.size w w'
set_option maxRecDepth 100000 in
set_option maxHeartbeats 12800000 in
theorem uRead {X0:Nat→Prop} {w:World} (hX:NX X0 w) (rs ls:Sl) (u n:Nat) {m k:Nat} {c:Nat→Nat} {R:Nat→Nat→Int} {x:Nat→Int} {cc:Int} (hr:Mi m c R rs X0 w) (hl:Li k x ls X0 w) (hR:∀ i j,i < m→j < c i→-9223372036854775808≤R i j∧R i j≤9223372036854775807) (hx:∀ i,i < k→-9223372036854775808≤x i∧x i≤9223372036854775807) (hcc:-9223372036854775808≤cc∧cc≤9223372036854775807) (hn:n≤12) (hnm:n≤m) (hmin:(((m:Nat):Int)≤((u:Nat):Int)∧((n:Nat):Int)=((m:Nat):Int))∨(((u:Nat):Int) < ((m:Nat):Int)∧((n:Nat):Int)=((u:Nat):Int))):Calls Tryz.prog 14 #[rs.v,ls.v,.int .i64 cc,.int .i64 ((u:Nat):Int)] w (PRdU X0 n (mir c R) (xl k x) cc w):=by
 have HR:=Lib.hid hR
 clear hR
 have HX:=Lib.hid hx
 clear hx
 have hZ0:=zs_start hX
 have hZ1:=hZ0.more (f:=Li k x ls) (Li.stb _ _ _) hl
 clear hZ0
 have hZ2:=hZ1.more (f:=Mi m c R rs) (Mi.stb _ _ _ _) hr
 clear hZ1
 go_enter Tryz.func14,Tryz.ntmps14
 go_wp2_with (refine zsa 32 #[.slice none 0 0,.slice none 0 0,.bool false,.slice none 0 0] (.agg #[.slice none 0 0,.slice none 0 0,.bool false,.slice none 0 0]) rfl rfl zv32 rfl hZ2 (fun bk1 X3 W1 hZ3=>?_))
 clear hZ2
 simp only [Stop,Act.put,zzC,zzD,zzE]
 go_wp2_with (refine zsa 45 #[.slice none 0 0,.slice none 0 0,.bool false,.slice none 0 0] (.agg #[.slice none 0 0,.slice none 0 0,.bool false,.slice none 0 0]) rfl rfl zv45 rfl hZ3 (fun bk2 X4 W2 hZ4=>?_))
 clear hZ3
 simp only [Stop,Act.put,zzC,zzD,zzE]
 go_wp2_with fail
 refine (uMirror hZ4.nx rs u n (hZ4.get 0 (f:=Mi m c R rs) rfl) (by omega) hnm hmin).mono ?_
 rintro zz W3 ⟨sm,rfl,hi_sm,hB⟩
 have hZ5:=hZ4.later hB
 clear hB hZ4
 have hZ6:=hZ5.more (f:=Mi n (fun _=>n) (mir c R) sm) (Mi.stb _ _ _ _) hi_sm
 clear hZ5 hi_sm
 go_wp2_with (refine zso rfl (fun K hK=>wp_lenq (.tmp 19) 22 23 sm rfl (by kernel_rfl) rfl (hZ6.get 0 (f:=Mi n (fun _=>n) (mir c R) sm) rfl).n (hK _ _ ?_)))
 simp only [Stop,Act.put,zzC,zzD,zzE]
 go_wp2_with fail
 refine (uFilled hZ6.nx ls n (hZ6.get 2 (f:=Li k x ls) rfl) (by omega)).mono ?_
 rintro zz W4 ⟨sf,rfl,hi_sf,hB⟩
 have hZ7:=hZ6.later hB
 clear hB hZ6
 have hZ8:=hZ7.more (f:=Li n (xl k x) sf) (Li.stb _ _ _) hi_sf
 clear hZ7 hi_sf
 go_wp2_with fail
 refine (uOfY hZ8.nx sm sf (hZ8.get 1 (f:=Mi n (fun _=>n) (mir c R) sm) rfl) (hZ8.get 0 (f:=Li n (xl k x) sf) rfl) (fun i j hi hj=>mir_in HR.out (Nat.lt_of_lt_of_le hi hnm) (Nat.lt_of_lt_of_le hj hnm)) ⟨by omega,fun _ _=>rfl⟩ (fun i j _ _=>mir_sym c R i j) (fun i _=>xl_rng HX.out i) hcc).mono ?_
 rintro zz W5 ⟨p,s,c_,rfl,hi_p,hi_s,ez_c_,hi_c_,hB⟩
 have hZ9:=hZ8.later hB
 clear hB hZ8
 have hZ10:=hZ9.more (f:=Mt n (fun _=>n) (mir c R) p) (Mt.stb _ _ _ _) hi_p
 clear hZ9 hi_p
 have hZ11:=hZ10.more (f:=Ls n (xl k x) s) (Ls.stb _ _ _) hi_s
 clear hZ10 hi_s
 have hZ12:=hZ11.more (f:=c_.is) c_.stb hi_c_
 clear hZ11 hi_c_
 go_wp2_with (refine zsa 32 #[.slice none 0 0,.slice none 0 0,.bool false,.slice none 0 0] (.agg #[.slice none 0 0,.slice none 0 0,.bool false,.slice none 0 0]) rfl rfl zv32 rfl hZ12 (fun bk3 X13 W6 hZ13=>?_))
 clear hZ12
 simp only [Stop,Act.put,zzC,zzD,zzE]
 go_wp2_with (refine zss 32 (.tmp 13) (.tmp 27) 0 bk3 0 #[.slice none 0 0,.slice none 0 0,.bool false,.slice none 0 0] 32 4 [p.v,s.v,.bool c_.b,.slice c_.a c_.n c_.c] #[p.v,s.v,.bool c_.b,.slice c_.a c_.n c_.c] [(bk3,#[p.v,s.v,.bool c_.b,.slice c_.a c_.n c_.c],32),(bk2,#[.slice none 0 0,.slice none 0 0,.bool false,.slice none 0 0],45),(bk1,#[.slice none 0 0,.slice none 0 0,.bool false,.slice none 0 0],32)] rfl rfl rfl rfl sz32 hZ13 rfl rfl (zzF (by kernel_rfl)) (by kernel_rfl) (by kernel_rfl) (by kernel_rfl) (fun W7 hZ14=>?_))
 clear hZ13
 simp only [Stop,Act.put,zzC,zzD,zzE]
 go_wp2
 obtain ⟨XR4,hZ15⟩:∃ Xr,Zs w W7 X0 Xr [(bk3,#[p.v,s.v,.bool c_.b,.slice c_.a c_.n c_.c],32),(bk2,#[.slice none 0 0,.slice none 0 0,.bool false,.slice none 0 0],45),(bk1,#[.slice none 0 0,.slice none 0 0,.bool false,.slice none 0 0],32)] [c_.is,Ls n (xl k x) s,Mt n (fun _=>n) (mir c R) p,Li n (xl k x) sf,Mi n (fun _=>n) (mir c R) sm,Mi m c R rs,Li k x ls]:=⟨_,hZ14⟩
 clear hZ14
 have hne0_1:=box_ne hZ15 1 2 rfl rfl (by decide)
 have hne1_0:=box_ne hZ15 2 1 rfl rfl (by decide)
 have hVS4:∀ kq,kq ∈ ([veq (.agg #[p.v,s.v,.bool c_.b,.slice c_.a c_.n c_.c]),veq (sm.v),veq (sf.v),veq (.int .i64 cc),vuxr n (mir c R) (xl k x) (cc),veq (.int .i64 0),veq (.bool true),veq (.bool true),veq (.pointer (some ⟨bk3,0,none⟩)),veq (p.v),veq (.int .i64 (((n:Nat):Int))),veq (sm.v),veq (.int .i64 (((n:Nat):Int))),veq (.bool true),veq (.bool true),veq (.bool true),veq (.pointer (some ⟨bk3,1,none⟩)),veq (s.v),veq (.int .i64 (((n:Nat):Int))),veq (sm.v),veq (.int .i64 (((n:Nat):Int))),veq (.bool true),veq (.bool true),vstK bk1 #[p.v,s.v,.bool c_.b,.slice c_.a c_.n c_.c] 32,vstUr bk2 n (mir c R) (xl k x) (cc) 45]:List VF)→VSt kq:=by
  intro kq hkq
  simp only [List.mem_cons,List.not_mem_nil,or_false] at hkq
  rcases hkq with rfl | rfl | rfl | rfl | rfl | rfl | rfl | rfl | rfl | rfl | rfl | rfl | rfl | rfl | rfl | rfl | rfl | rfl | rfl | rfl | rfl | rfl | rfl | rfl | rfl
  ·
   exact (zve _).st
  ·
   exact (zve _).st
  ·
   exact (zve _).st
  ·
   exact (zve _).st
  ·
   exact (vuxr_se _ _ _ _).st
  ·
   exact (zve _).st
  ·
   exact (zve _).st
  ·
   exact (zve _).st
  ·
   exact (zve _).st
  ·
   exact (zve _).st
  ·
   exact (zve _).st
  ·
   exact (zve _).st
  ·
   exact (zve _).st
  ·
   exact (zve _).st
  ·
   exact (zve _).st
  ·
   exact (zve _).st
  ·
   exact (zve _).st
  ·
   exact (zve _).st
  ·
   exact (zve _).st
  ·
   exact (zve _).st
  ·
   exact (zve _).st
  ·
   exact (zve _).st
  ·
   exact (zve _).st
  ·
   exact vstK_st _ _ _
  ·
   exact vstUr_st _ _ _ _ _ _
 refine wp_region_s 25 [some 29,some 30,some 31,some 32,some 33,some 34,some 35,some 36,some 37,some 38,some 39,some 40,some 41,some 42,some 43,some 44,some 45,some 46,some 47,some 48,some 49,some 50,some 51,none,none] [veq (.agg #[p.v,s.v,.bool c_.b,.slice c_.a c_.n c_.c]),veq (sm.v),veq (sf.v),veq (.int .i64 cc),vuxr n (mir c R) (xl k x) (cc),veq (.int .i64 0),veq (.bool true),veq (.bool true),veq (.pointer (some ⟨bk3,0,none⟩)),veq (p.v),veq (.int .i64 (((n:Nat):Int))),veq (sm.v),veq (.int .i64 (((n:Nat):Int))),veq (.bool true),veq (.bool true),veq (.bool true),veq (.pointer (some ⟨bk3,1,none⟩)),veq (s.v),veq (.int .i64 (((n:Nat):Int))),veq (sm.v),veq (.int .i64 (((n:Nat):Int))),veq (.bool true),veq (.bool true),vstK bk1 #[p.v,s.v,.bool c_.b,.slice c_.a c_.n c_.c] 32,vstUr bk2 n (mir c R) (xl k x) (cc) 45] (fun _ _ X1 l1=>XR4=X1∧∃ Cz0 Cz1:Array Value,Cz0.size=4∧Cz1.size=4∧[(bk3,#[p.v,s.v,.bool c_.b,.slice c_.a c_.n c_.c],32),(bk2,Cz0,45),(bk1,Cz1,32)]=l1) [c_.is,Ls n (xl k x) s,Mt n (fun _=>n) (mir c R) p,Li n (xl k x) sf,Mi n (fun _=>n) (mir c R) sm,Mi m c R rs,Li k x ls] (by kernel_rfl) (by kernel_rfl) (by rfl) (by decide) (by rfl) (fun _=>⟨XR4,_,⟨rfl,_,_,rfl,rfl,rfl⟩,hZ15.later (Below.refl _ _).drew⟩) ?_ ?_
 ·
  intro iq hlq hiq LL uu ww aa X1 l1 hLi hLc hR hJ hd hall hev hin hold
  clear hZ15
  obtain rfl | rfl | rfl | rfl | rfl | rfl | rfl | rfl | rfl | rfl | rfl | rfl | rfl | rfl | rfl | rfl | rfl | rfl | rfl | rfl | rfl | rfl | rfl | rfl | rfl:iq=0∨iq=1∨iq=2∨iq=3∨iq=4∨iq=5∨iq=6∨iq=7∨iq=8∨iq=9∨iq=10∨iq=11∨iq=12∨iq=13∨iq=14∨iq=15∨iq=16∨iq=17∨iq=18∨iq=19∨iq=20∨iq=21∨iq=22∨iq=23∨iq=24:=by omega
  ·
   refine zos hJ (fun _=>hR) ?_
   obtain ⟨eX,Cz0,Cz1,hsCz0,hsCz1,el⟩:=hR
   subst eX
   subst el
   exact .inr ⟨rfl,fun K' hK=>wp_load 32 (.tmp 13) rfl bk3 0 4 #[p.v,s.v,.bool c_.b,.slice c_.a c_.n c_.c] #[p.v,s.v,.bool c_.b,.slice c_.a c_.n c_.c] 32 (hJ.es.at' _ (zzG (i:=0) rfl)) (zet ((hev 13 (by decide)).trans rfl)) ag32 sz32 (zzF (by kernel_rfl)) (by kernel_rfl) (hK _ _ hJ rfl zvs)⟩
  ·
   refine zos hJ (fun _=>hR) ?_
   obtain ⟨eX,Cz0,Cz1,hsCz0,hsCz1,el⟩:=hR
   subst eX
   subst el
   exact .inr ⟨rfl,fun K' hK=>wp_move (.tmp 11) rfl (zet ((hev 11 (by decide)).trans rfl)) (hK _ _ hJ rfl zvs)⟩
  ·
   refine zos hJ (fun _=>hR) ?_
   obtain ⟨eX,Cz0,Cz1,hsCz0,hsCz1,el⟩:=hR
   subst eX
   subst el
   exact .inr ⟨rfl,fun K' hK=>wp_move (.tmp 12) rfl (zet ((hev 12 (by decide)).trans rfl)) (hK _ _ hJ rfl zvs)⟩
  ·
   refine zos hJ (fun _=>hR) ?_
   obtain ⟨eX,Cz0,Cz1,hsCz0,hsCz1,el⟩:=hR
   subst eX
   subst el
   exact .inr ⟨rfl,fun K' hK=>wp_move (.tmp 2) rfl (zet ((hev 2 (by decide)).trans rfl)) (hK _ _ hJ rfl zvs)⟩
  ·
   refine zos hJ (fun _=>hR) ?_
   obtain ⟨eX,Cz0,Cz1,hsCz0,hsCz1,el⟩:=hR
   subst eX
   subst el
   refine .inr ⟨rfl,fun K' hK=>?_⟩
   refine zcz (.func 13) #[.tmp 30,.tmp 31,.tmp 32] #[22,23,2] 13 #[] #[sm.v,sf.v,.int .i64 cc] _ rfl rfl (map3 (zj (hin 1 30 rfl) (show uu 1=sm.v from (hd 1 (by decide) (by kernel_rfl)).2)) (zj (hin 2 31 rfl) (show uu 2=sf.v from (hd 2 (by decide) (by kernel_rfl)).2)) (zj (hin 3 32 rfl) (show uu 3=.int .i64 cc from (hd 3 (by decide) (by kernel_rfl)).2))) rfl (fun _ _=>rfl) (dOf8 hJ.nx sm sf (hJ.get 4 (f:=Mi n (fun _=>n) (mir c R) sm) rfl) (hJ.get 3 (f:=Li n (xl k x) sf) rfl) (by omega) (fun i j hi hj=>mir_in HR.out (Nat.lt_of_lt_of_le hi hnm) (Nat.lt_of_lt_of_le hj hnm)) (fun i _=>xl_rng HX.out i) hcc) ?_
   rintro zz ww2 ⟨p',s',c',rfl,hi_p',hi_s',ez_c',hi_c',hB⟩
   exact ⟨_,rfl,hK _ _ (hJ.later hB) ⟨p',s',c',rfl,hi_p',hi_s',ez_c',hi_c'⟩ (zvl hVS4 hB)⟩
  ·
   refine zos hJ (fun _=>hR) ?_
   obtain ⟨eX,Cz0,Cz1,hsCz0,hsCz1,el⟩:=hR
   subst eX
   subst el
   exact .inr ⟨rfl,fun K' hK=>wp_move (.tmp 14) rfl (zet ((hev 14 (by decide)).trans rfl)) (hK _ _ hJ rfl zvs)⟩
  ·
   refine zos hJ (fun _=>hR) ?_
   obtain ⟨eX,Cz0,Cz1,hsCz0,hsCz1,el⟩:=hR
   subst eX
   subst el
   exact .inr ⟨rfl,fun K' hK=>wp_eqlE (.tmp 34) (.const (.int .i64 0)) rfl (zj (hin 5 34 rfl) (show uu 5=.int .i64 0 from (hd 5 (by decide) (by kernel_rfl)).2)) rfl (r:=true) (by decide) (hK _ _ hJ rfl zvs)⟩
  ·
   refine zos hJ (fun _=>hR) ?_
   obtain ⟨eX,Cz0,Cz1,hsCz0,hsCz1,el⟩:=hR
   subst eX
   subst el
   exact .inr ⟨rfl,fun K' hK=>wp_move (.tmp 35) rfl (zj (hin 6 35 rfl) (show uu 6=.bool true from (hd 6 (by decide) (by kernel_rfl)).2)) (hK _ _ hJ rfl zvs)⟩
  ·
   refine zos hJ (fun _=>hR) ?_
   obtain ⟨eX,Cz0,Cz1,hsCz0,hsCz1,el⟩:=hR
   subst eX
   subst el
   exact .inr ⟨(wanted_at (g:=7) (b:=true) (t:=36) rfl rfl ((hin 7 36 rfl).trans (congrArg some (show uu 7=.bool true from (hd 7 (by decide) (by kernel_rfl)).2))) rfl),fun K' hK=>wp_fda (v:=.pointer (some ⟨bk3,0,none⟩)) 32 (.tmp 13) 0 rfl (zet ((hev 13 (by decide)).trans rfl)) (fun _=>by kernel_rfl) (hK _ _ hJ rfl zvs)⟩
  ·
   refine zos hJ (fun _=>hR) ?_
   obtain ⟨eX,Cz0,Cz1,hsCz0,hsCz1,el⟩:=hR
   subst eX
   subst el
   exact .inr ⟨(wanted_at (g:=7) (b:=true) (t:=36) rfl rfl ((hin 7 36 rfl).trans (congrArg some (show uu 7=.bool true from (hd 7 (by decide) (by kernel_rfl)).2))) rfl),fun K' hK=>wp_load1 (v:=p.v) 26 (.tmp 37) rfl bk3 0 #[p.v,s.v,.bool c_.b,.slice c_.a c_.n c_.c] 32 (hJ.es.at' _ (zzG (i:=0) rfl)) (zj (hin 8 37 rfl) (show uu 8=.pointer (some ⟨bk3,0,none⟩) from (hd 8 (by decide) (by kernel_rfl)).2)) ag26 (by kernel_rfl) (hK _ _ hJ rfl zvs)⟩
  ·
   refine zos hJ (fun _=>hR) ?_
   obtain ⟨eX,Cz0,Cz1,hsCz0,hsCz1,el⟩:=hR
   subst eX
   subst el
   exact .inr ⟨(wanted_at (g:=7) (b:=true) (t:=36) rfl rfl ((hin 7 36 rfl).trans (congrArg some (show uu 7=.bool true from (hd 7 (by decide) (by kernel_rfl)).2))) rfl),fun K' hK=>wp_lenq (.tmp 38) 26 27 p rfl (by kernel_rfl) (zj (hin 9 38 rfl) (show uu 9=p.v from (hd 9 (by decide) (by kernel_rfl)).2)) (hJ.get 2 (f:=Mt n (fun _=>n) (mir c R) p) rfl).n (hK _ _ hJ rfl zvs)⟩
  ·
   refine zos hJ (fun _=>hR) ?_
   obtain ⟨eX,Cz0,Cz1,hsCz0,hsCz1,el⟩:=hR
   subst eX
   subst el
   exact .inr ⟨(wanted_at (g:=7) (b:=true) (t:=36) rfl rfl ((hin 7 36 rfl).trans (congrArg some (show uu 7=.bool true from (hd 7 (by decide) (by kernel_rfl)).2))) rfl),fun K' hK=>wp_move (.tmp 11) rfl (zet ((hev 11 (by decide)).trans rfl)) (hK _ _ hJ rfl zvs)⟩
  ·
   refine zos hJ (fun _=>hR) ?_
   obtain ⟨eX,Cz0,Cz1,hsCz0,hsCz1,el⟩:=hR
   subst eX
   subst el
   exact .inr ⟨(wanted_at (g:=7) (b:=true) (t:=36) rfl rfl ((hin 7 36 rfl).trans (congrArg some (show uu 7=.bool true from (hd 7 (by decide) (by kernel_rfl)).2))) rfl),fun K' hK=>wp_lenq (.tmp 40) 22 23 sm rfl (by kernel_rfl) (zj (hin 11 40 rfl) (show uu 11=sm.v from (hd 11 (by decide) (by kernel_rfl)).2)) (hJ.get 4 (f:=Mi n (fun _=>n) (mir c R) sm) rfl).n (hK _ _ hJ rfl zvs)⟩
  ·
   refine zos hJ (fun _=>hR) ?_
   obtain ⟨eX,Cz0,Cz1,hsCz0,hsCz1,el⟩:=hR
   subst eX
   subst el
   exact .inr ⟨(wanted_at (g:=7) (b:=true) (t:=36) rfl rfl ((hin 7 36 rfl).trans (congrArg some (show uu 7=.bool true from (hd 7 (by decide) (by kernel_rfl)).2))) rfl),fun K' hK=>wp_eqli (.tmp 39) (.tmp 41) 3 3 rfl rfl (zj (hin 10 39 rfl) (show uu 10=.int .i64 (((n:Nat):Int)) from (hd 10 (by decide) (by kernel_rfl)).2)) (zj (hin 12 41 rfl) (show uu 12=.int .i64 (((n:Nat):Int)) from (hd 12 (by decide) (by kernel_rfl)).2)) (r:=true) (decide_eq_true rfl) (hK _ _ hJ rfl zvs)⟩
  ·
   refine zos hJ (fun _=>hR) ?_
   obtain ⟨eX,Cz0,Cz1,hsCz0,hsCz1,el⟩:=hR
   subst eX
   subst el
   exact .inr ⟨rfl,fun K' hK=>wp_pick (bv:=true) (.tmp 36) (.tmp 42) (.const (.bool false)) rfl (zj (hin 7 36 rfl) (show uu 7=.bool true from (hd 7 (by decide) (by kernel_rfl)).2)) (zj (hin 13 42 rfl) (show uu 13=.bool true from (hd 13 (by decide) (by kernel_rfl)).2)) rfl (hK _ _ hJ rfl zvs)⟩
  ·
   refine zos hJ (fun _=>hR) ?_
   obtain ⟨eX,Cz0,Cz1,hsCz0,hsCz1,el⟩:=hR
   subst eX
   subst el
   exact .inr ⟨rfl,fun K' hK=>wp_move (.tmp 43) rfl (zj (hin 14 43 rfl) (show uu 14=.bool true from (hd 14 (by decide) (by kernel_rfl)).2)) (hK _ _ hJ rfl zvs)⟩
  ·
   refine zos hJ (fun _=>hR) ?_
   obtain ⟨eX,Cz0,Cz1,hsCz0,hsCz1,el⟩:=hR
   subst eX
   subst el
   exact .inr ⟨(wanted_at (g:=15) (b:=true) (t:=44) rfl rfl ((hin 15 44 rfl).trans (congrArg some (show uu 15=.bool true from (hd 15 (by decide) (by kernel_rfl)).2))) rfl),fun K' hK=>wp_fda (v:=.pointer (some ⟨bk3,1,none⟩)) 32 (.tmp 13) 1 rfl (zet ((hev 13 (by decide)).trans rfl)) (fun _=>by kernel_rfl) (hK _ _ hJ rfl zvs)⟩
  ·
   refine zos hJ (fun _=>hR) ?_
   obtain ⟨eX,Cz0,Cz1,hsCz0,hsCz1,el⟩:=hR
   subst eX
   subst el
   exact .inr ⟨(wanted_at (g:=15) (b:=true) (t:=44) rfl rfl ((hin 15 44 rfl).trans (congrArg some (show uu 15=.bool true from (hd 15 (by decide) (by kernel_rfl)).2))) rfl),fun K' hK=>wp_load1 (v:=s.v) 27 (.tmp 45) rfl bk3 1 #[p.v,s.v,.bool c_.b,.slice c_.a c_.n c_.c] 32 (hJ.es.at' _ (zzG (i:=0) rfl)) (zj (hin 16 45 rfl) (show uu 16=.pointer (some ⟨bk3,1,none⟩) from (hd 16 (by decide) (by kernel_rfl)).2)) ag27 (by kernel_rfl) (hK _ _ hJ rfl zvs)⟩
  ·
   refine zos hJ (fun _=>hR) ?_
   obtain ⟨eX,Cz0,Cz1,hsCz0,hsCz1,el⟩:=hR
   subst eX
   subst el
   exact .inr ⟨(wanted_at (g:=15) (b:=true) (t:=44) rfl rfl ((hin 15 44 rfl).trans (congrArg some (show uu 15=.bool true from (hd 15 (by decide) (by kernel_rfl)).2))) rfl),fun K' hK=>wp_lenq (.tmp 46) 27 30 s rfl (by kernel_rfl) (zj (hin 17 46 rfl) (show uu 17=s.v from (hd 17 (by decide) (by kernel_rfl)).2)) (hJ.get 1 (f:=Ls n (xl k x) s) rfl).n (hK _ _ hJ rfl zvs)⟩
  ·
   refine zos hJ (fun _=>hR) ?_
   obtain ⟨eX,Cz0,Cz1,hsCz0,hsCz1,el⟩:=hR
   subst eX
   subst el
   exact .inr ⟨(wanted_at (g:=15) (b:=true) (t:=44) rfl rfl ((hin 15 44 rfl).trans (congrArg some (show uu 15=.bool true from (hd 15 (by decide) (by kernel_rfl)).2))) rfl),fun K' hK=>wp_move (.tmp 11) rfl (zet ((hev 11 (by decide)).trans rfl)) (hK _ _ hJ rfl zvs)⟩
  ·
   refine zos hJ (fun _=>hR) ?_
   obtain ⟨eX,Cz0,Cz1,hsCz0,hsCz1,el⟩:=hR
   subst eX
   subst el
   exact .inr ⟨(wanted_at (g:=15) (b:=true) (t:=44) rfl rfl ((hin 15 44 rfl).trans (congrArg some (show uu 15=.bool true from (hd 15 (by decide) (by kernel_rfl)).2))) rfl),fun K' hK=>wp_lenq (.tmp 48) 22 23 sm rfl (by kernel_rfl) (zj (hin 19 48 rfl) (show uu 19=sm.v from (hd 19 (by decide) (by kernel_rfl)).2)) (hJ.get 4 (f:=Mi n (fun _=>n) (mir c R) sm) rfl).n (hK _ _ hJ rfl zvs)⟩
  ·
   refine zos hJ (fun _=>hR) ?_
   obtain ⟨eX,Cz0,Cz1,hsCz0,hsCz1,el⟩:=hR
   subst eX
   subst el
   exact .inr ⟨(wanted_at (g:=15) (b:=true) (t:=44) rfl rfl ((hin 15 44 rfl).trans (congrArg some (show uu 15=.bool true from (hd 15 (by decide) (by kernel_rfl)).2))) rfl),fun K' hK=>wp_eqli (.tmp 47) (.tmp 49) 3 3 rfl rfl (zj (hin 18 47 rfl) (show uu 18=.int .i64 (((n:Nat):Int)) from (hd 18 (by decide) (by kernel_rfl)).2)) (zj (hin 20 49 rfl) (show uu 20=.int .i64 (((n:Nat):Int)) from (hd 20 (by decide) (by kernel_rfl)).2)) (r:=true) (decide_eq_true rfl) (hK _ _ hJ rfl zvs)⟩
  ·
   refine zos hJ (fun _=>hR) ?_
   obtain ⟨eX,Cz0,Cz1,hsCz0,hsCz1,el⟩:=hR
   subst eX
   subst el
   exact .inr ⟨rfl,fun K' hK=>wp_pick (bv:=true) (.tmp 44) (.tmp 50) (.const (.bool false)) rfl (zj (hin 15 44 rfl) (show uu 15=.bool true from (hd 15 (by decide) (by kernel_rfl)).2)) (zj (hin 21 50 rfl) (show uu 21=.bool true from (hd 21 (by decide) (by kernel_rfl)).2)) rfl (hK _ _ hJ rfl zvs)⟩
  ·
   obtain ⟨eX,Cz0,Cz1,hsCz0,hsCz1,el⟩:=hR
   subst eX
   subst el
   have hXb:XR4 bk1:=hJ.own _ (zzG (i:=2) rfl)
   refine .inr ⟨rfl,fun K' hK=>wp_store 32 (.tmp 8) (.tmp 29) rfl 2 bk1 0 Cz1 32 4 [p.v,s.v,.bool c_.b,.slice c_.a c_.n c_.c] hJ.es rfl (zet ((hev 8 (by decide)).trans rfl)) (by rw [(zj (hin 0 29 rfl) (show uu 0=.agg #[p.v,s.v,.bool c_.b,.slice c_.a c_.n c_.c] from (hd 0 (by decide) (by kernel_rfl)).2))]; rfl) sz32 rfl (by omega) (by kernel_rfl) (fun ww2 hE hk hz=>?_)⟩
   have hP:=(hJ.put (j:=2) rfl hE hk hz).only [c_.is,Ls n (xl k x) s,Mt n (fun _=>n) (mir c R) p,Li n (xl k x) sf,Mi n (fun _=>n) (mir c R) sm,Mi m c R rs,Li k x ls] (by simp)
   exact hK undef ww2 _ _ ⟨rfl,Cz0,putC Cz1 0 _,hsCz0,by rw [putC_size]; exact hsCz1,rfl⟩ hP (put_cl (j:=2) hE rfl (by rw [hsCz1]; rfl)) (vzL_p hXb hk hz (by
    intro kq hkq
    simp only [List.mem_cons,List.not_mem_nil,or_false] at hkq
    rcases hkq with rfl | rfl | rfl | rfl | rfl | rfl | rfl | rfl | rfl | rfl | rfl | rfl | rfl | rfl | rfl | rfl | rfl | rfl | rfl | rfl | rfl | rfl | rfl | rfl | rfl
    ·
     exact .inl ((zve _).sp _)
    ·
     exact .inl ((zve _).sp _)
    ·
     exact .inl ((zve _).sp _)
    ·
     exact .inl ((zve _).sp _)
    ·
     exact .inl ((vuxr_se _ _ _ _).sp _)
    ·
     exact .inl ((zve _).sp _)
    ·
     exact .inl ((zve _).sp _)
    ·
     exact .inl ((zve _).sp _)
    ·
     exact .inl ((zve _).sp _)
    ·
     exact .inl ((zve _).sp _)
    ·
     exact .inl ((zve _).sp _)
    ·
     exact .inl ((zve _).sp _)
    ·
     exact .inl ((zve _).sp _)
    ·
     exact .inl ((zve _).sp _)
    ·
     exact .inl ((zve _).sp _)
    ·
     exact .inl ((zve _).sp _)
    ·
     exact .inl ((zve _).sp _)
    ·
     exact .inl ((zve _).sp _)
    ·
     exact .inl ((zve _).sp _)
    ·
     exact .inl ((zve _).sp _)
    ·
     exact .inl ((zve _).sp _)
    ·
     exact .inl ((zve _).sp _)
    ·
     exact .inl ((zve _).sp _)
    ·
     exact .inr (fun _=>(put_cl (j:=2) hE rfl (by rw [hsCz1]; rfl)))
    ·
     exact .inl (vstUr_sp hne0_1 _ _ _ _ _)))
  ·
   obtain ⟨eX,Cz0,Cz1,hsCz0,hsCz1,el⟩:=hR
   subst eX
   subst el
   obtain ⟨p',s',c',e4,hi_p',hi_s',ez_c',hi_c'⟩:=(show (vuxr n (mir c R) (xl k x) (cc)) (uu 4) XR4 ww from (hd 4 (by decide) (by kernel_rfl)).2)
   replace hJ:=hJ.more (f:=Mr n (fun _=>n) (mir c R) p') (Mr.stb _ _ _ _) hi_p'
   replace hJ:=hJ.more (f:=Lr n (xl k x) s') (Lr.stb _ _ _) hi_s'
   replace hJ:=hJ.more (f:=c'.ir) c'.stbr hi_c'
   have hXb:XR4 bk2:=hJ.own _ (zzG (i:=1) rfl)
   refine .inr ⟨rfl,fun K' hK=>wp_store 45 (.tmp 9) (.tmp 33) rfl 1 bk2 0 Cz0 45 4 [p'.v,s'.v,.bool c'.b,.slice c'.a c'.n c'.c] hJ.es rfl (zet ((hev 9 (by decide)).trans rfl)) (by rw [(zj (hin 4 33 rfl) e4)]; rfl) sz45 rfl (by omega) (by kernel_rfl) (fun ww2 hE hk hz=>?_)⟩
   have hP:=(hJ.put (j:=1) rfl hE hk hz).only [c_.is,Ls n (xl k x) s,Mt n (fun _=>n) (mir c R) p,Li n (xl k x) sf,Mi n (fun _=>n) (mir c R) sm,Mi m c R rs,Li k x ls] (by simp)
   exact hK undef ww2 _ _ ⟨rfl,putC Cz0 0 _,Cz1,by rw [putC_size]; exact hsCz0,hsCz1,rfl⟩ hP ⟨p',s',c',(Mr.stb _ _ _ _ _ _ _ _ (ext_put hXb hk hz) hi_p'),(Lr.stb _ _ _ _ _ _ _ (ext_put hXb hk hz) hi_s'),ez_c',(c'.stbr _ _ _ _ (ext_put hXb hk hz) hi_c'),(put_cl (j:=1) hE rfl (by rw [hsCz0]; rfl))⟩ (vzL_p hXb hk hz (by
    intro kq hkq
    simp only [List.mem_cons,List.not_mem_nil,or_false] at hkq
    rcases hkq with rfl | rfl | rfl | rfl | rfl | rfl | rfl | rfl | rfl | rfl | rfl | rfl | rfl | rfl | rfl | rfl | rfl | rfl | rfl | rfl | rfl | rfl | rfl | rfl | rfl
    ·
     exact .inl ((zve _).sp _)
    ·
     exact .inl ((zve _).sp _)
    ·
     exact .inl ((zve _).sp _)
    ·
     exact .inl ((zve _).sp _)
    ·
     exact .inl ((vuxr_se _ _ _ _).sp _)
    ·
     exact .inl ((zve _).sp _)
    ·
     exact .inl ((zve _).sp _)
    ·
     exact .inl ((zve _).sp _)
    ·
     exact .inl ((zve _).sp _)
    ·
     exact .inl ((zve _).sp _)
    ·
     exact .inl ((zve _).sp _)
    ·
     exact .inl ((zve _).sp _)
    ·
     exact .inl ((zve _).sp _)
    ·
     exact .inl ((zve _).sp _)
    ·
     exact .inl ((zve _).sp _)
    ·
     exact .inl ((zve _).sp _)
    ·
     exact .inl ((zve _).sp _)
    ·
     exact .inl ((zve _).sp _)
    ·
     exact .inl ((zve _).sp _)
    ·
     exact .inl ((zve _).sp _)
    ·
     exact .inl ((zve _).sp _)
    ·
     exact .inl ((zve _).sp _)
    ·
     exact .inl ((zve _).sp _)
    ·
     exact .inl (vstK_sp hne1_0 _ _)
    ·
     exact .inr (fun _=>⟨p',s',c',(Mr.stb _ _ _ _ _ _ _ _ (ext_put hXb hk hz) hi_p'),(Lr.stb _ _ _ _ _ _ _ (ext_put hXb hk hz) hi_s'),ez_c',(c'.stbr _ _ _ _ (ext_put hXb hk hz) hi_c'),(put_cl (j:=1) hE rfl (by rw [hsCz0]; rfl))⟩)))
 clear hZ15
 intro LL uu W8 X1 l1 hLL hR hZ16 hd
 obtain ⟨eX,Cz0,Cz1,hsCz0,hsCz1,el⟩:=hR
 subst eX
 subst el
 have e_0:uu 0=.agg #[p.v,s.v,.bool c_.b,.slice c_.a c_.n c_.c]:=hd 0 (by decide)
 have e_1:uu 1=sm.v:=hd 1 (by decide)
 have e_2:uu 2=sf.v:=hd 2 (by decide)
 have e_3:uu 3=.int .i64 cc:=hd 3 (by decide)
 obtain ⟨p',s',c',e_4,hi_p',hi_s',ez_c',hi_c'⟩:=(show (vuxr n (mir c R) (xl k x) (cc)) (uu 4) XR4 W8 from hd 4 (by decide))
 have e_5:uu 5=.int .i64 0:=hd 5 (by decide)
 have e_6:uu 6=.bool true:=hd 6 (by decide)
 have e_7:uu 7=.bool true:=hd 7 (by decide)
 have e_8:uu 8=.pointer (some ⟨bk3,0,none⟩):=hd 8 (by decide)
 have e_9:uu 9=p.v:=hd 9 (by decide)
 have e_10:uu 10=.int .i64 (((n:Nat):Int)):=hd 10 (by decide)
 have e_11:uu 11=sm.v:=hd 11 (by decide)
 have e_12:uu 12=.int .i64 (((n:Nat):Int)):=hd 12 (by decide)
 have e_13:uu 13=.bool true:=hd 13 (by decide)
 have e_14:uu 14=.bool true:=hd 14 (by decide)
 have e_15:uu 15=.bool true:=hd 15 (by decide)
 have e_16:uu 16=.pointer (some ⟨bk3,1,none⟩):=hd 16 (by decide)
 have e_17:uu 17=s.v:=hd 17 (by decide)
 have e_18:uu 18=.int .i64 (((n:Nat):Int)):=hd 18 (by decide)
 have e_19:uu 19=sm.v:=hd 19 (by decide)
 have e_20:uu 20=.int .i64 (((n:Nat):Int)):=hd 20 (by decide)
 have e_21:uu 21=.bool true:=hd 21 (by decide)
 have e_22:uu 22=.bool true:=hd 22 (by decide)
 have hcl23:=(show (vstK bk1 #[p.v,s.v,.bool c_.b,.slice c_.a c_.n c_.c] 32) (uu 23) XR4 W8 from hd 23 (by decide))
 obtain rfl:=cl_eq (hZ16.es.at' _ (zzG (i:=2) rfl)) hcl23
 clear hcl23 hsCz1
 obtain ⟨p'_24,s'_24,c'_24,hi_p'_24,hi_s'_24,ez_c'_24,hi_c'_24,hcl24⟩:=(show (vstUr bk2 n (mir c R) (xl k x) (cc) 45) (uu 24) XR4 W8 from hd 24 (by decide))
 obtain rfl:=cl_eq (hZ16.es.at' _ (zzG (i:=1) rfl)) hcl24
 clear hcl24 hsCz0 hd hVS4
 simp only [layS,Act.put,zzC,zzD,zzE,Nat.zero_add,Nat.reduceAdd,List.drop_succ_cons,List.drop_zero,List.drop_nil,e_0,e_1,e_2,e_3,e_4,e_5,e_6,e_7,e_8,e_9,e_10,e_11,e_12,e_13,e_14,e_15,e_16,e_17,e_18,e_19,e_20,e_21,e_22]
 clear e_0 e_1 e_2 e_3 e_4 e_5 e_6 e_7 e_8 e_9 e_10 e_11 e_12 e_13 e_14 e_15 e_16 e_17 e_18 e_19 e_20 e_21 e_22
 have hZ17:=hZ16.more (f:=Mr n (fun _=>n) (mir c R) p') (Mr.stb _ _ _ _) (hi_p')
 clear hZ16
 clear hi_p'
 have hZ18:=hZ17.more (f:=Lr n (xl k x) s') (Lr.stb _ _ _) (hi_s')
 clear hZ17
 clear hi_s'
 have hZ19:=hZ18.more (f:=c'.ir) c'.stbr (hi_c')
 clear hZ18
 clear hi_c'
 have hZ20:=hZ19.more (f:=Mr n (fun _=>n) (mir c R) p'_24) (Mr.stb _ _ _ _) (hi_p'_24)
 clear hZ19
 clear hi_p'_24
 have hZ21:=hZ20.more (f:=Lr n (xl k x) s'_24) (Lr.stb _ _ _) (hi_s'_24)
 clear hZ20
 clear hi_s'_24
 have hZ22:=hZ21.more (f:=c'_24.ir) c'_24.stbr (hi_c'_24)
 clear hZ21
 clear hi_c'_24
 go_wp2
 refine bodyPost_ret (v:=.tuple #[.agg #[p.v,s.v,.bool c_.b,.slice c_.a c_.n c_.c],.agg #[p'_24.v,s'_24.v,.bool c'_24.b,.slice c'_24.a c'_24.n c'_24.c],.bool true]) (results_cct Tryz.results14 (hZ22.es.loadBox 2 rfl ag32 sz32 (zzF (by kernel_rfl)) (by kernel_rfl)) (hZ22.es.loadBox 1 rfl ag45 sz45 (zzF (by kernel_rfl)) (by kernel_rfl)) rfl rfl rfl) rfl ?_
 exact ⟨p,s,c_,p'_24,s'_24,c'_24,rfl,(hZ22.out 8 (f:=Mt n (fun _=>n) (mir c R) p) rfl),(hZ22.out 7 (f:=Ls n (xl k x) s) rfl),ez_c_,(hZ22.out 6 (f:=c_.is) rfl),(hZ22.out 2 (f:=Mr n (fun _=>n) (mir c R) p'_24) rfl),(hZ22.out 1 (f:=Lr n (xl k x) s'_24) rfl),ez_c'_24,(hZ22.out 0 (f:=c'_24.ir) rfl),hZ22.below⟩
theorem lpb_le {a:Nat} (h:a≤8):lpb 2 a≤150:=by
 have:a=0∨a=1∨a=2∨a=3∨a=4∨a=5∨a=6∨a=7∨a=8:=by omega
 rcases this with rfl | rfl | rfl | rfl | rfl | rfl | rfl | rfl | rfl <;> decide
section
variable {k r:Nat} {P:Nat→Nat→Int} {q:Nat→Int} {C:Int}
theorem wq_sz {y:Nat→Int} (bP:∀ i j,i < k+r→j < k+r→Sz 2 (P i j)) (bq:∀ i,i < k+r→Sz 2 (q i)) (by_:∀ i,i < r→Sz 2 (y i)) (hr:r≤12) (i:Nat) (hi:i < k):Sz 60 (wq k r P q y i):=by
 have h:=Sz.minus (e:=59) ((bq i (by omega)).mono (by omega)) ((sm_sz (fun (j:Nat) (hj:j < r)=>Sz.mul (bP i (k+j) (by omega) (by omega)) (by_ j hj))).mono (by omega))
 exact h
theorem wc_sz {y:Nat→Int} (hs:Sym (k+r) P) (bP:∀ i j,i < k+r→j < k+r→Sz 2 (P i j)) (bq:∀ i,i < k+r→Sz 2 (q i)) (bC:Sz 2 C) (by_:∀ i,i < r→Sz 2 (y i)) (hk:k+r≤12):Sz 60 (wc k r P q C y):=by
 rw [← with_c hs]
 refine (vq_sz bP bq bC fun i hi=>?_).mono (by omega)
 unfold jn
 split
 ·
  exact sz_zero _
 ·
  exact by_ _ (by omega)
theorem dt_pos (h:Sym k P∧∀ i,i < k→0 < M.dt (i+1) P):0 < M.dt k P:=by
 cases k with
 | zero=>exact Int.zero_lt_one
 | succ k=>exact h.2 k (by omega)
end
section
variable {a b r:Nat} {P:Nat→Nat→Int} {q:Nat→Int} {C:Int}
end
open Classical in
set_option maxRecDepth 100000 in
set_option maxHeartbeats 25600000 in
theorem uqp1 {X0:Nat→Prop} {w:World} (hX:NX X0 w) (ra qa la:Sl) (m kx kl:Nat) (c:Nat→Nat) (R:Nat→Nat→Int) (x:Nat→Int) (cc:Int) (xl_:Nat→Int) (hra:Mi m c R ra X0 w) (hqa:Li kx x qa X0 w) (hla:Li kl xl_ la X0 w) (rgR0:∀ i j,i < m→j < c i→-9223372036854775808≤R i j∧R i j≤9223372036854775807) (rgx0:∀ i,i < kx→-9223372036854775808≤x i∧x i≤9223372036854775807) (hcc:-9223372036854775808≤cc∧cc≤9223372036854775807) (rgl0:∀ i,i < kl→-9223372036854775808≤xl_ i∧xl_ i≤9223372036854775807) (n:Nat) (kk:Int) (hnm:n≤m) (hmin:(((m:Nat):Int)≤((5:Nat):Int)∧((n:Nat):Int)=((m:Nat):Int))∨(((5:Nat):Int) < ((m:Nat):Int)∧((n:Nat):Int)=((5:Nat):Int))) (hnu:n≤5) (hk:kk < 0):Calls Tryz.prog 5 #[ra.v,qa.v,.int .i64 cc,la.v,.int .i64 kk] w (PVal (.bool true) w):=by
 have rgR:=Lib.hid rgR0
 clear rgR0
 have rgx:=Lib.hid rgx0
 clear rgx0
 have rgl:=Lib.hid rgl0
 clear rgl0
 have BPm:∀ i j,i < n→j < n→Sz 2 (mir c R i j):=(fun (i j:Nat) hi hj=>sz_int (mir_in rgR.out (Nat.lt_of_lt_of_le hi hnm) (Nat.lt_of_lt_of_le hj hnm)).1 (mir_in rgR.out (Nat.lt_of_lt_of_le hi hnm) (Nat.lt_of_lt_of_le hj hnm)).2)
 have BQm:∀ i,i < n→Sz 2 (xl kx x i):=fun i _=>xl_in rgx.out i
 have BCm:Sz 2 cc:=sz_int hcc.1 hcc.2
 have BXm:∀ i,Sz 2 (xl kl xl_ i):=fun i=>xl_in rgl.out i
 have hZ0:=zs_start hX
 have hZ1:=hZ0.more (f:=Li kl xl_ la) (Li.stb _ _ _) hla
 clear hZ0
 have hZ2:=hZ1.more (f:=Li kx x qa) (Li.stb _ _ _) hqa
 clear hZ1
 have hZ3:=hZ2.more (f:=Mi m c R ra) (Mi.stb _ _ _ _) hra
 clear hZ2
 go_enter Tryz.func5,Tryz.ntmps5
 go_wp2_with fail
 refine (uAwake hZ3.nx).mono ?_
 rintro zz W1 ⟨rfl,hB⟩
 have hZ4:=hZ3.later hB
 clear hB hZ3
 go_wp2_with fail
 refine (uRead hZ4.nx ra qa 5 n (hZ4.get 0 (f:=Mi m c R ra) rfl) (hZ4.get 1 (f:=Li kx x qa) rfl) rgR.out rgx.out hcc (by omega) hnm hmin).mono ?_
 rintro zz W2 ⟨pf,sf,cf,pfd,sfd,cfd,rfl,hi_pf,hi_sf,ez_cf,hi_cf,hi_pfd,hi_sfd,ez_cfd,hi_cfd,hB⟩
 have hZ5:=hZ4.later hB
 clear hB hZ4
 have hZ6:=hZ5.more (f:=Mt n (fun _=>n) (mir c R) pf) (Mt.stb _ _ _ _) hi_pf
 clear hZ5 hi_pf
 have hZ7:=hZ6.more (f:=Ls n (xl kx x) sf) (Ls.stb _ _ _) hi_sf
 clear hZ6 hi_sf
 have hZ8:=hZ7.more (f:=cf.is) cf.stb hi_cf
 clear hZ7 hi_cf
 have hZ9:=hZ8.more (f:=Mr n (fun _=>n) (mir c R) pfd) (Mr.stb _ _ _ _) hi_pfd
 clear hZ8 hi_pfd
 have hZ10:=hZ9.more (f:=Lr n (xl kx x) sfd) (Lr.stb _ _ _) hi_sfd
 clear hZ9 hi_sfd
 have hZ11:=hZ10.more (f:=cfd.ir) cfd.stbr hi_cfd
 clear hZ10 hi_cfd
 go_wp2_with (refine zsa 32 #[.slice none 0 0,.slice none 0 0,.bool false,.slice none 0 0] (.agg #[.slice none 0 0,.slice none 0 0,.bool false,.slice none 0 0]) rfl rfl zv32 rfl hZ11 (fun bk1 X12 W3 hZ12=>?_))
 clear hZ11
 simp only [Stop,Act.put,zzC,zzD,zzE]
 go_wp2_with (refine zsa 45 #[.slice none 0 0,.slice none 0 0,.bool false,.slice none 0 0] (.agg #[.slice none 0 0,.slice none 0 0,.bool false,.slice none 0 0]) rfl rfl zv45 rfl hZ12 (fun bk2 X13 W4 hZ13=>?_))
 clear hZ12
 simp only [Stop,Act.put,zzC,zzD,zzE]
 go_wp2_with (refine zss 32 (.tmp 12) (.tmp 40) 1 bk1 0 #[.slice none 0 0,.slice none 0 0,.bool false,.slice none 0 0] 32 4 [pf.v,sf.v,.bool cf.b,.slice cf.a cf.n cf.c] #[pf.v,sf.v,.bool cf.b,.slice cf.a cf.n cf.c] [(bk2,#[.slice none 0 0,.slice none 0 0,.bool false,.slice none 0 0],45),(bk1,#[pf.v,sf.v,.bool cf.b,.slice cf.a cf.n cf.c],32)] rfl rfl rfl rfl sz32 hZ13 rfl rfl (zzF (by kernel_rfl)) (by kernel_rfl) (by kernel_rfl) (by kernel_rfl) (fun W5 hZ14=>?_))
 clear hZ13
 simp only [Stop,Act.put,zzC,zzD,zzE]
 go_wp2_with (refine zss 45 (.tmp 13) (.tmp 41) 0 bk2 0 #[.slice none 0 0,.slice none 0 0,.bool false,.slice none 0 0] 45 4 [pfd.v,sfd.v,.bool cfd.b,.slice cfd.a cfd.n cfd.c] #[pfd.v,sfd.v,.bool cfd.b,.slice cfd.a cfd.n cfd.c] [(bk2,#[pfd.v,sfd.v,.bool cfd.b,.slice cfd.a cfd.n cfd.c],45),(bk1,#[pf.v,sf.v,.bool cf.b,.slice cf.a cf.n cf.c],32)] rfl rfl rfl rfl sz45 hZ14 rfl rfl (zzF (by kernel_rfl)) (by kernel_rfl) (by kernel_rfl) (by kernel_rfl) (fun W6 hZ15=>?_))
 clear hZ14
 simp only [Stop,Act.put,zzC,zzD,zzE]
 go_wp2_with (refine zso rfl (fun K hK=>wp_fda (v:=.pointer (some ⟨bk1,0,none⟩)) 32 (.tmp 12) 0 rfl rfl (fun _=>by kernel_rfl) (hK _ _ ?_)))
 simp only [Stop,Act.put,zzC,zzD,zzE]
 go_wp2_with (refine zso rfl (fun K hK=>wp_load1 (v:=pf.v) 26 (.tmp 46) rfl bk1 0 #[pf.v,sf.v,.bool cf.b,.slice cf.a cf.n cf.c] 32 (hZ15.es.at' _ (zzG (i:=1) rfl)) rfl ag26 (by kernel_rfl) (hK _ _ ?_)))
 simp only [Stop,Act.put,zzC,zzD,zzE]
 go_wp2_with (refine zso rfl (fun K hK=>wp_lenq (.tmp 47) 26 27 pf rfl (by kernel_rfl) rfl (hZ15.get 5 (f:=Mt n (fun _=>n) (mir c R) pf) rfl).n (hK _ _ ?_)))
 simp only [Stop,Act.put,zzC,zzD,zzE]
 go_wp2_with (refine zso rfl (fun K hK=>wp_lssi (.tmp 49) (.const (.int .i64 0)) rfl rfl rfl (r:=true) (decide_eq_true hk) (hK _ _ ?_)))
 simp only [Stop,Act.put,zzC,zzD,zzE]
 go_wp2_with (refine zso rfl (fun K hK=>wp_load 32 (.tmp 12) rfl bk1 0 4 #[pf.v,sf.v,.bool cf.b,.slice cf.a cf.n cf.c] #[pf.v,sf.v,.bool cf.b,.slice cf.a cf.n cf.c] 32 (hZ15.es.at' _ (zzG (i:=1) rfl)) rfl ag32 sz32 (zzF (by kernel_rfl)) (by kernel_rfl) (hK _ _ ?_)))
 simp only [Stop,Act.put,zzC,zzD,zzE]
 go_wp2_with fail
 refine (uWoNeg hZ15.nx pf sf cf kk (hZ15.get 5 (f:=Mt n (fun _=>n) (mir c R) pf) rfl) (hZ15.get 4 (f:=Ls n (xl kx x) sf) rfl) (hZ15.get 3 (f:=cf.is) rfl) ez_cf (by omega) hk).mono ?_
 rintro zz W7 ⟨rfl,hB⟩
 have hZ16:=hZ15.later hB
 clear hB hZ15
 go_wp2_with (refine zsa 32 #[.slice none 0 0,.slice none 0 0,.bool false,.slice none 0 0] (.agg #[.slice none 0 0,.slice none 0 0,.bool false,.slice none 0 0]) rfl rfl zv32 rfl hZ16 (fun bk3 X17 W8 hZ17=>?_))
 clear hZ16
 simp only [Stop,Act.put,zzC,zzD,zzE]
 go_wp2_with (refine zsa 30 #[.bool false,.slice none 0 0] (.agg #[.bool false,.slice none 0 0]) rfl rfl zv30 rfl hZ17 (fun bk4 X18 W9 hZ18=>?_))
 clear hZ17
 simp only [Stop,Act.put,zzC,zzD,zzE]
 go_wp2_with (refine zss 32 (.tmp 16) (.tmp 60) 1 bk3 0 #[.slice none 0 0,.slice none 0 0,.bool false,.slice none 0 0] 32 4 [.slice none 0 0,.slice none 0 0,.bool false,.slice none 0 0] #[.slice none 0 0,.slice none 0 0,.bool false,.slice none 0 0] [(bk4,#[.bool false,.slice none 0 0],30),(bk3,#[.slice none 0 0,.slice none 0 0,.bool false,.slice none 0 0],32),(bk2,#[pfd.v,sfd.v,.bool cfd.b,.slice cfd.a cfd.n cfd.c],45),(bk1,#[pf.v,sf.v,.bool cf.b,.slice cf.a cf.n cf.c],32)] rfl rfl rfl rfl sz32 hZ18 rfl rfl (zzF (by kernel_rfl)) (by kernel_rfl) (by kernel_rfl) (by kernel_rfl) (fun W10 hZ19=>?_))
 clear hZ18
 simp only [Stop,Act.put,zzC,zzD,zzE]
 go_wp2_with (refine zss 30 (.tmp 17) (.tmp 61) 0 bk4 0 #[.bool false,.slice none 0 0] 30 2 [.bool false,.slice none 0 0] #[.bool false,.slice none 0 0] [(bk4,#[.bool false,.slice none 0 0],30),(bk3,#[.slice none 0 0,.slice none 0 0,.bool false,.slice none 0 0],32),(bk2,#[pfd.v,sfd.v,.bool cfd.b,.slice cfd.a cfd.n cfd.c],45),(bk1,#[pf.v,sf.v,.bool cf.b,.slice cf.a cf.n cf.c],32)] rfl rfl rfl rfl sz30 hZ19 rfl rfl (zzF (by kernel_rfl)) (by kernel_rfl) (by kernel_rfl) (by kernel_rfl) (fun W11 hZ20=>?_))
 clear hZ19
 simp only [Stop,Act.put,zzC,zzD,zzE]
 go_wp2_with (refine zso rfl (fun K hK=>wp_addi (.tmp 65) (.const (.int .i64 1)) rfl rfl rfl (C:=((n+1:Nat):Int)) (by omega) (by omega) (by omega) (hK _ _ ?_)))
 simp only [Stop,Act.put,zzC,zzD,zzE]
 go_wp2_with fail
 refine (uList hZ20.nx la (n+1) (hZ20.get 8 (f:=Li kl xl_ la) rfl) (by omega) rgl.out).mono ?_
 rintro zz W12 ⟨s2,d2,rfl,hi_s2,hi_d2,hB⟩
 have hZ21:=hZ20.later hB
 clear hB hZ20
 have hZ22:=hZ21.more (f:=Ls (n+1) (xl kl xl_) s2) (Ls.stb _ _ _) hi_s2
 clear hZ21 hi_s2
 have hZ23:=hZ22.more (f:=Lr (n+1) (xl kl xl_) d2) (Lr.stb _ _ _) hi_d2
 clear hZ22 hi_d2
 go_wp2_with (refine zso rfl (fun K hK=>wp_load 32 (.tmp 12) rfl bk1 0 4 #[pf.v,sf.v,.bool cf.b,.slice cf.a cf.n cf.c] #[pf.v,sf.v,.bool cf.b,.slice cf.a cf.n cf.c] 32 (hZ23.es.at' _ (zzG (i:=3) rfl)) rfl ag32 sz32 (zzF (by kernel_rfl)) (by kernel_rfl) (hK _ _ ?_)))
 simp only [Stop,Act.put,zzC,zzD,zzE]
 go_wp2_with fail
 refine (uWithArg hZ23.nx pf sf s2 cf (hZ23.get 7 (f:=Mt n (fun _=>n) (mir c R) pf) rfl) (hZ23.get 6 (f:=Ls n (xl kx x) sf) rfl) (hZ23.get 5 (f:=cf.is) rfl) ez_cf (hZ23.get 1 (f:=Ls (n+1) (xl kl xl_) s2) rfl) (by omega) (by omega) (by omega)).mono ?_
 rintro zz W13 ⟨rfl,hB⟩
 have hZ24:=hZ23.later hB
 clear hB hZ23
 go_wp2_with (refine zsa 32 #[.slice none 0 0,.slice none 0 0,.bool false,.slice none 0 0] (.agg #[.slice none 0 0,.slice none 0 0,.bool false,.slice none 0 0]) rfl rfl zv32 rfl hZ24 (fun bk5 X25 W14 hZ25=>?_))
 clear hZ24
 simp only [Stop,Act.put,zzC,zzD,zzE]
 go_wp2_with (refine zss 32 (.tmp 21) (.tmp 74) 0 bk5 0 #[.slice none 0 0,.slice none 0 0,.bool false,.slice none 0 0] 32 4 [.slice none 0 0,.slice none 0 0,.bool false,.slice none 0 0] #[.slice none 0 0,.slice none 0 0,.bool false,.slice none 0 0] [(bk5,#[.slice none 0 0,.slice none 0 0,.bool false,.slice none 0 0],32),(bk4,#[.bool false,.slice none 0 0],30),(bk3,#[.slice none 0 0,.slice none 0 0,.bool false,.slice none 0 0],32),(bk2,#[pfd.v,sfd.v,.bool cfd.b,.slice cfd.a cfd.n cfd.c],45),(bk1,#[pf.v,sf.v,.bool cf.b,.slice cf.a cf.n cf.c],32)] rfl rfl rfl rfl sz32 hZ25 rfl rfl (zzF (by kernel_rfl)) (by kernel_rfl) (by kernel_rfl) (by kernel_rfl) (fun W15 hZ26=>?_))
 clear hZ25
 simp only [Stop,Act.put,zzC,zzD,zzE]
 go_wp2
 go_ret
 exact ⟨rfl,hZ26.below⟩
open Classical in
set_option maxRecDepth 100000 in
set_option maxHeartbeats 25600000 in
theorem uqp2 {X0:Nat→Prop} {w:World} (hX:NX X0 w) (ra qa la:Sl) (m kx kl:Nat) (c:Nat→Nat) (R:Nat→Nat→Int) (x:Nat→Int) (cc:Int) (xl_:Nat→Int) (hra:Mi m c R ra X0 w) (hqa:Li kx x qa X0 w) (hla:Li kl xl_ la X0 w) (rgR0:∀ i j,i < m→j < c i→-9223372036854775808≤R i j∧R i j≤9223372036854775807) (rgx0:∀ i,i < kx→-9223372036854775808≤x i∧x i≤9223372036854775807) (hcc:-9223372036854775808≤cc∧cc≤9223372036854775807) (rgl0:∀ i,i < kl→-9223372036854775808≤xl_ i∧xl_ i≤9223372036854775807) (n:Nat) (kk:Int) (hnm:n≤m) (hmin:(((m:Nat):Int)≤((5:Nat):Int)∧((n:Nat):Int)=((m:Nat):Int))∨(((5:Nat):Int) < ((m:Nat):Int)∧((n:Nat):Int)=((5:Nat):Int))) (hnu:n≤5) (hk:0≤kk) (hk2:(n:Int) < kk):Calls Tryz.prog 5 #[ra.v,qa.v,.int .i64 cc,la.v,.int .i64 kk] w (PVal (.bool true) w):=by
 have rgR:=Lib.hid rgR0
 clear rgR0
 have rgx:=Lib.hid rgx0
 clear rgx0
 have rgl:=Lib.hid rgl0
 clear rgl0
 have BPm:∀ i j,i < n→j < n→Sz 2 (mir c R i j):=(fun (i j:Nat) hi hj=>sz_int (mir_in rgR.out (Nat.lt_of_lt_of_le hi hnm) (Nat.lt_of_lt_of_le hj hnm)).1 (mir_in rgR.out (Nat.lt_of_lt_of_le hi hnm) (Nat.lt_of_lt_of_le hj hnm)).2)
 have BQm:∀ i,i < n→Sz 2 (xl kx x i):=fun i _=>xl_in rgx.out i
 have BCm:Sz 2 cc:=sz_int hcc.1 hcc.2
 have BXm:∀ i,Sz 2 (xl kl xl_ i):=fun i=>xl_in rgl.out i
 have hZ0:=zs_start hX
 have hZ1:=hZ0.more (f:=Li kl xl_ la) (Li.stb _ _ _) hla
 clear hZ0
 have hZ2:=hZ1.more (f:=Li kx x qa) (Li.stb _ _ _) hqa
 clear hZ1
 have hZ3:=hZ2.more (f:=Mi m c R ra) (Mi.stb _ _ _ _) hra
 clear hZ2
 go_enter Tryz.func5,Tryz.ntmps5
 go_wp2_with fail
 refine (uAwake hZ3.nx).mono ?_
 rintro zz W1 ⟨rfl,hB⟩
 have hZ4:=hZ3.later hB
 clear hB hZ3
 go_wp2_with fail
 refine (uRead hZ4.nx ra qa 5 n (hZ4.get 0 (f:=Mi m c R ra) rfl) (hZ4.get 1 (f:=Li kx x qa) rfl) rgR.out rgx.out hcc (by omega) hnm hmin).mono ?_
 rintro zz W2 ⟨pf,sf,cf,pfd,sfd,cfd,rfl,hi_pf,hi_sf,ez_cf,hi_cf,hi_pfd,hi_sfd,ez_cfd,hi_cfd,hB⟩
 have hZ5:=hZ4.later hB
 clear hB hZ4
 have hZ6:=hZ5.more (f:=Mt n (fun _=>n) (mir c R) pf) (Mt.stb _ _ _ _) hi_pf
 clear hZ5 hi_pf
 have hZ7:=hZ6.more (f:=Ls n (xl kx x) sf) (Ls.stb _ _ _) hi_sf
 clear hZ6 hi_sf
 have hZ8:=hZ7.more (f:=cf.is) cf.stb hi_cf
 clear hZ7 hi_cf
 have hZ9:=hZ8.more (f:=Mr n (fun _=>n) (mir c R) pfd) (Mr.stb _ _ _ _) hi_pfd
 clear hZ8 hi_pfd
 have hZ10:=hZ9.more (f:=Lr n (xl kx x) sfd) (Lr.stb _ _ _) hi_sfd
 clear hZ9 hi_sfd
 have hZ11:=hZ10.more (f:=cfd.ir) cfd.stbr hi_cfd
 clear hZ10 hi_cfd
 go_wp2_with (refine zsa 32 #[.slice none 0 0,.slice none 0 0,.bool false,.slice none 0 0] (.agg #[.slice none 0 0,.slice none 0 0,.bool false,.slice none 0 0]) rfl rfl zv32 rfl hZ11 (fun bk1 X12 W3 hZ12=>?_))
 clear hZ11
 simp only [Stop,Act.put,zzC,zzD,zzE]
 go_wp2_with (refine zsa 45 #[.slice none 0 0,.slice none 0 0,.bool false,.slice none 0 0] (.agg #[.slice none 0 0,.slice none 0 0,.bool false,.slice none 0 0]) rfl rfl zv45 rfl hZ12 (fun bk2 X13 W4 hZ13=>?_))
 clear hZ12
 simp only [Stop,Act.put,zzC,zzD,zzE]
 go_wp2_with (refine zss 32 (.tmp 12) (.tmp 40) 1 bk1 0 #[.slice none 0 0,.slice none 0 0,.bool false,.slice none 0 0] 32 4 [pf.v,sf.v,.bool cf.b,.slice cf.a cf.n cf.c] #[pf.v,sf.v,.bool cf.b,.slice cf.a cf.n cf.c] [(bk2,#[.slice none 0 0,.slice none 0 0,.bool false,.slice none 0 0],45),(bk1,#[pf.v,sf.v,.bool cf.b,.slice cf.a cf.n cf.c],32)] rfl rfl rfl rfl sz32 hZ13 rfl rfl (zzF (by kernel_rfl)) (by kernel_rfl) (by kernel_rfl) (by kernel_rfl) (fun W5 hZ14=>?_))
 clear hZ13
 simp only [Stop,Act.put,zzC,zzD,zzE]
 go_wp2_with (refine zss 45 (.tmp 13) (.tmp 41) 0 bk2 0 #[.slice none 0 0,.slice none 0 0,.bool false,.slice none 0 0] 45 4 [pfd.v,sfd.v,.bool cfd.b,.slice cfd.a cfd.n cfd.c] #[pfd.v,sfd.v,.bool cfd.b,.slice cfd.a cfd.n cfd.c] [(bk2,#[pfd.v,sfd.v,.bool cfd.b,.slice cfd.a cfd.n cfd.c],45),(bk1,#[pf.v,sf.v,.bool cf.b,.slice cf.a cf.n cf.c],32)] rfl rfl rfl rfl sz45 hZ14 rfl rfl (zzF (by kernel_rfl)) (by kernel_rfl) (by kernel_rfl) (by kernel_rfl) (fun W6 hZ15=>?_))
 clear hZ14
 simp only [Stop,Act.put,zzC,zzD,zzE]
 go_wp2_with (refine zso rfl (fun K hK=>wp_fda (v:=.pointer (some ⟨bk1,0,none⟩)) 32 (.tmp 12) 0 rfl rfl (fun _=>by kernel_rfl) (hK _ _ ?_)))
 simp only [Stop,Act.put,zzC,zzD,zzE]
 go_wp2_with (refine zso rfl (fun K hK=>wp_load1 (v:=pf.v) 26 (.tmp 46) rfl bk1 0 #[pf.v,sf.v,.bool cf.b,.slice cf.a cf.n cf.c] 32 (hZ15.es.at' _ (zzG (i:=1) rfl)) rfl ag26 (by kernel_rfl) (hK _ _ ?_)))
 simp only [Stop,Act.put,zzC,zzD,zzE]
 go_wp2_with (refine zso rfl (fun K hK=>wp_lenq (.tmp 47) 26 27 pf rfl (by kernel_rfl) rfl (hZ15.get 5 (f:=Mt n (fun _=>n) (mir c R) pf) rfl).n (hK _ _ ?_)))
 simp only [Stop,Act.put,zzC,zzD,zzE]
 go_wp2_with (refine zso rfl (fun K hK=>wp_lssi (.tmp 49) (.const (.int .i64 0)) rfl rfl rfl (r:=false) (decide_eq_false (by omega)) (hK _ _ ?_)))
 simp only [Stop,Act.put,zzC,zzD,zzE]
 go_wp2_with (refine zsw (by kernel_rfl) (fun K hK=>wp_gtri (.tmp 52) (.tmp 53) rfl rfl rfl (r:=true) (decide_eq_true hk2) (hK _ _ ?_)))
 simp only [Stop,Act.put,zzC,zzD,zzE]
 go_wp2_with (refine zso rfl (fun K hK=>wp_load 32 (.tmp 12) rfl bk1 0 4 #[pf.v,sf.v,.bool cf.b,.slice cf.a cf.n cf.c] #[pf.v,sf.v,.bool cf.b,.slice cf.a cf.n cf.c] 32 (hZ15.es.at' _ (zzG (i:=1) rfl)) rfl ag32 sz32 (zzF (by kernel_rfl)) (by kernel_rfl) (hK _ _ ?_)))
 simp only [Stop,Act.put,zzC,zzD,zzE]
 go_wp2_with fail
 refine (uWoBig hZ15.nx pf sf cf kk (hZ15.get 5 (f:=Mt n (fun _=>n) (mir c R) pf) rfl) (hZ15.get 4 (f:=Ls n (xl kx x) sf) rfl) (hZ15.get 3 (f:=cf.is) rfl) ez_cf (by omega) hk hk2).mono ?_
 rintro zz W7 ⟨rfl,hB⟩
 have hZ16:=hZ15.later hB
 clear hB hZ15
 go_wp2_with (refine zsa 32 #[.slice none 0 0,.slice none 0 0,.bool false,.slice none 0 0] (.agg #[.slice none 0 0,.slice none 0 0,.bool false,.slice none 0 0]) rfl rfl zv32 rfl hZ16 (fun bk3 X17 W8 hZ17=>?_))
 clear hZ16
 simp only [Stop,Act.put,zzC,zzD,zzE]
 go_wp2_with (refine zsa 30 #[.bool false,.slice none 0 0] (.agg #[.bool false,.slice none 0 0]) rfl rfl zv30 rfl hZ17 (fun bk4 X18 W9 hZ18=>?_))
 clear hZ17
 simp only [Stop,Act.put,zzC,zzD,zzE]
 go_wp2_with (refine zss 32 (.tmp 16) (.tmp 60) 1 bk3 0 #[.slice none 0 0,.slice none 0 0,.bool false,.slice none 0 0] 32 4 [.slice none 0 0,.slice none 0 0,.bool false,.slice none 0 0] #[.slice none 0 0,.slice none 0 0,.bool false,.slice none 0 0] [(bk4,#[.bool false,.slice none 0 0],30),(bk3,#[.slice none 0 0,.slice none 0 0,.bool false,.slice none 0 0],32),(bk2,#[pfd.v,sfd.v,.bool cfd.b,.slice cfd.a cfd.n cfd.c],45),(bk1,#[pf.v,sf.v,.bool cf.b,.slice cf.a cf.n cf.c],32)] rfl rfl rfl rfl sz32 hZ18 rfl rfl (zzF (by kernel_rfl)) (by kernel_rfl) (by kernel_rfl) (by kernel_rfl) (fun W10 hZ19=>?_))
 clear hZ18
 simp only [Stop,Act.put,zzC,zzD,zzE]
 go_wp2_with (refine zss 30 (.tmp 17) (.tmp 61) 0 bk4 0 #[.bool false,.slice none 0 0] 30 2 [.bool false,.slice none 0 0] #[.bool false,.slice none 0 0] [(bk4,#[.bool false,.slice none 0 0],30),(bk3,#[.slice none 0 0,.slice none 0 0,.bool false,.slice none 0 0],32),(bk2,#[pfd.v,sfd.v,.bool cfd.b,.slice cfd.a cfd.n cfd.c],45),(bk1,#[pf.v,sf.v,.bool cf.b,.slice cf.a cf.n cf.c],32)] rfl rfl rfl rfl sz30 hZ19 rfl rfl (zzF (by kernel_rfl)) (by kernel_rfl) (by kernel_rfl) (by kernel_rfl) (fun W11 hZ20=>?_))
 clear hZ19
 simp only [Stop,Act.put,zzC,zzD,zzE]
 go_wp2_with (refine zso rfl (fun K hK=>wp_addi (.tmp 65) (.const (.int .i64 1)) rfl rfl rfl (C:=((n+1:Nat):Int)) (by omega) (by omega) (by omega) (hK _ _ ?_)))
 simp only [Stop,Act.put,zzC,zzD,zzE]
 go_wp2_with fail
 refine (uList hZ20.nx la (n+1) (hZ20.get 8 (f:=Li kl xl_ la) rfl) (by omega) rgl.out).mono ?_
 rintro zz W12 ⟨s2,d2,rfl,hi_s2,hi_d2,hB⟩
 have hZ21:=hZ20.later hB
 clear hB hZ20
 have hZ22:=hZ21.more (f:=Ls (n+1) (xl kl xl_) s2) (Ls.stb _ _ _) hi_s2
 clear hZ21 hi_s2
 have hZ23:=hZ22.more (f:=Lr (n+1) (xl kl xl_) d2) (Lr.stb _ _ _) hi_d2
 clear hZ22 hi_d2
 go_wp2_with (refine zso rfl (fun K hK=>wp_load 32 (.tmp 12) rfl bk1 0 4 #[pf.v,sf.v,.bool cf.b,.slice cf.a cf.n cf.c] #[pf.v,sf.v,.bool cf.b,.slice cf.a cf.n cf.c] 32 (hZ23.es.at' _ (zzG (i:=3) rfl)) rfl ag32 sz32 (zzF (by kernel_rfl)) (by kernel_rfl) (hK _ _ ?_)))
 simp only [Stop,Act.put,zzC,zzD,zzE]
 go_wp2_with fail
 refine (uWithArg hZ23.nx pf sf s2 cf (hZ23.get 7 (f:=Mt n (fun _=>n) (mir c R) pf) rfl) (hZ23.get 6 (f:=Ls n (xl kx x) sf) rfl) (hZ23.get 5 (f:=cf.is) rfl) ez_cf (hZ23.get 1 (f:=Ls (n+1) (xl kl xl_) s2) rfl) (by omega) (by omega) (by omega)).mono ?_
 rintro zz W13 ⟨rfl,hB⟩
 have hZ24:=hZ23.later hB
 clear hB hZ23
 go_wp2_with (refine zsa 32 #[.slice none 0 0,.slice none 0 0,.bool false,.slice none 0 0] (.agg #[.slice none 0 0,.slice none 0 0,.bool false,.slice none 0 0]) rfl rfl zv32 rfl hZ24 (fun bk5 X25 W14 hZ25=>?_))
 clear hZ24
 simp only [Stop,Act.put,zzC,zzD,zzE]
 go_wp2_with (refine zss 32 (.tmp 21) (.tmp 74) 0 bk5 0 #[.slice none 0 0,.slice none 0 0,.bool false,.slice none 0 0] 32 4 [.slice none 0 0,.slice none 0 0,.bool false,.slice none 0 0] #[.slice none 0 0,.slice none 0 0,.bool false,.slice none 0 0] [(bk5,#[.slice none 0 0,.slice none 0 0,.bool false,.slice none 0 0],32),(bk4,#[.bool false,.slice none 0 0],30),(bk3,#[.slice none 0 0,.slice none 0 0,.bool false,.slice none 0 0],32),(bk2,#[pfd.v,sfd.v,.bool cfd.b,.slice cfd.a cfd.n cfd.c],45),(bk1,#[pf.v,sf.v,.bool cf.b,.slice cf.a cf.n cf.c],32)] rfl rfl rfl rfl sz32 hZ25 rfl rfl (zzF (by kernel_rfl)) (by kernel_rfl) (by kernel_rfl) (by kernel_rfl) (fun W15 hZ26=>?_))
 clear hZ25
 simp only [Stop,Act.put,zzC,zzD,zzE]
 go_wp2
 go_ret
 exact ⟨rfl,hZ26.below⟩
end Go.Proofs.YtjclllindbfmhaaGreatDoor
