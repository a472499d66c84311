/- Parts of the proof. -/
import Derived.Test.YtjclllindbfmhabGreatDoorHs0
import Derived.Test.YtjclllindbfmhabGreatDoorHs37
import Derived.Test.YtjclllindbfmhabGreatDoorHs35
import Derived.Test.YtjclllindbfmhabGreatDoorHs32
import Derived.Test.YtjclllindbfmhabGreatDoorHs34
import Derived.Test.YtjclllindbfmhabGreatDoorHs28
import Derived.Test.YtjclllindbfmhabGreatDoorHs33
set_option linter.unusedSimpArgs false
set_option linter.unusedVariables false
namespace Go.Proofs.YtjclllindbfmhabGreatDoor
/- The laws' helper read of layer 8, walked. No statement of the seat is proved here. -/
open Go Go.RowKit
/-- A function, the program's and the document's, and that it is one. -/
def PRdU (X:Nat→Prop) (n:Nat) (P:Nat→Nat→Int) (q:Nat→Int) (C:Int) (w:World) (e:Ending) (w':World):Prop:=∃ (p s:Sl) (c:NL) (p' s':Sl) (c':NL),e=.returned (.tuple #[.agg #[p.v,s.v,.bool c.b,.slice c.a c.n c.c],.agg #[p'.v,s'.v,.bool c'.b,.slice c'.a c'.n c'.c],.bool true])∧Mt n (fun _=>n) P p X w'∧Ls n q s X w'∧c.z=C∧c.is X w'∧Mr n (fun _=>n) P p' X w'∧Lr n q s' X w'∧c'.z=C∧c'.ir X w'∧Below w.heap.size w w'
set_option maxRecDepth 100000 in
set_option maxHeartbeats 12800000 in
theorem uRead {X0:Nat→Prop} {w:World} (hX:NX X0 w) (rs ls:Sl) (u n:Nat) {m k:Nat} {c:Nat→Nat} {R:Nat→Nat→Int} {x:Nat→Int} {cc:Int} (hr:Mi m c R rs X0 w) (hl:Li k x ls X0 w) (hR:∀ i j,i < m→j < c i→-9223372036854775808≤R i j∧R i j≤9223372036854775807) (hx:∀ i,i < k→-9223372036854775808≤x i∧x i≤9223372036854775807) (hcc:-9223372036854775808≤cc∧cc≤9223372036854775807) (hn:n≤12) (hnm:n≤m) (hmin:(((m:Nat):Int)≤((u:Nat):Int)∧((n:Nat):Int)=((m:Nat):Int))∨(((u:Nat):Int) < ((m:Nat):Int)∧((n:Nat):Int)=((u:Nat):Int))):Calls Tryz.prog 5 #[rs.v,ls.v,.int .i64 cc,.int .i64 ((u:Nat):Int)] w (PRdU X0 n (mir c R) (xl k x) cc w):=by
 have HR:=Lib.hid hR
 clear hR
 have HX:=Lib.hid hx
 clear hx
 have hZ0:=zs_start hX
 have hZ1:=hZ0.more (f:=Li k x ls) (Li.stb _ _ _) hl
 clear hZ0
 have hZ2:=hZ1.more (f:=Mi m c R rs) (Mi.stb _ _ _ _) hr
 clear hZ1
 go_enter Tryz.func5,Tryz.ntmps5
 go_wp2_with (refine zsa 32 #[.slice none 0 0,.slice none 0 0,.bool false,.slice none 0 0] (.agg #[.slice none 0 0,.slice none 0 0,.bool false,.slice none 0 0]) rfl rfl zv32 rfl hZ2 (fun bk1 X3 W1 hZ3=>?_))
 clear hZ2
 simp only [Stop,Act.put,zzC,zzD,zzE]
 go_wp2_with (refine zsa 40 #[.slice none 0 0,.slice none 0 0,.bool false,.slice none 0 0] (.agg #[.slice none 0 0,.slice none 0 0,.bool false,.slice none 0 0]) rfl rfl zv40 rfl hZ3 (fun bk2 X4 W2 hZ4=>?_))
 clear hZ3
 simp only [Stop,Act.put,zzC,zzD,zzE]
 go_wp2_with fail
 refine (uMirror hZ4.nx rs u n (hZ4.get 0 (f:=Mi m c R rs) rfl) (by omega) hnm hmin).mono ?_
 rintro zz W3 ⟨sm,rfl,hi_sm,hB⟩
 have hZ5:=hZ4.later hB
 clear hB hZ4
 have hZ6:=hZ5.more (f:=Mi n (fun _=>n) (mir c R) sm) (Mi.stb _ _ _ _) hi_sm
 clear hZ5 hi_sm
 go_wp2_with (refine zso rfl (fun K hK=>wp_lenq (.tmp 19) 22 23 sm rfl (by kernel_rfl) rfl (hZ6.get 0 (f:=Mi n (fun _=>n) (mir c R) sm) rfl).n (hK _ _ ?_)))
 simp only [Stop,Act.put,zzC,zzD,zzE]
 go_wp2_with fail
 refine (uFilled hZ6.nx ls n (hZ6.get 2 (f:=Li k x ls) rfl) (by omega)).mono ?_
 rintro zz W4 ⟨sf,rfl,hi_sf,hB⟩
 have hZ7:=hZ6.later hB
 clear hB hZ6
 have hZ8:=hZ7.more (f:=Li n (xl k x) sf) (Li.stb _ _ _) hi_sf
 clear hZ7 hi_sf
 go_wp2_with fail
 refine (uOfY hZ8.nx sm sf (hZ8.get 1 (f:=Mi n (fun _=>n) (mir c R) sm) rfl) (hZ8.get 0 (f:=Li n (xl k x) sf) rfl) (fun i j hi hj=>mir_in HR.out (Nat.lt_of_lt_of_le hi hnm) (Nat.lt_of_lt_of_le hj hnm)) ⟨by omega,fun _ _=>rfl⟩ (fun i j _ _=>mir_sym c R i j) (fun i _=>xl_rng HX.out i) hcc).mono ?_
 rintro zz W5 ⟨p,s,c_,rfl,hi_p,hi_s,ez_c_,hi_c_,hB⟩
 have hZ9:=hZ8.later hB
 clear hB hZ8
 have hZ10:=hZ9.more (f:=Mt n (fun _=>n) (mir c R) p) (Mt.stb _ _ _ _) hi_p
 clear hZ9 hi_p
 have hZ11:=hZ10.more (f:=Ls n (xl k x) s) (Ls.stb _ _ _) hi_s
 clear hZ10 hi_s
 have hZ12:=hZ11.more (f:=c_.is) c_.stb hi_c_
 clear hZ11 hi_c_
 go_wp2_with (refine zsa 32 #[.slice none 0 0,.slice none 0 0,.bool false,.slice none 0 0] (.agg #[.slice none 0 0,.slice none 0 0,.bool false,.slice none 0 0]) rfl rfl zv32 rfl hZ12 (fun bk3 X13 W6 hZ13=>?_))
 clear hZ12
 simp only [Stop,Act.put,zzC,zzD,zzE]
 go_wp2_with (refine zss 32 (.tmp 13) (.tmp 27) 0 bk3 0 #[.slice none 0 0,.slice none 0 0,.bool false,.slice none 0 0] 32 4 [p.v,s.v,.bool c_.b,.slice c_.a c_.n c_.c] #[p.v,s.v,.bool c_.b,.slice c_.a c_.n c_.c] [(bk3,#[p.v,s.v,.bool c_.b,.slice c_.a c_.n c_.c],32),(bk2,#[.slice none 0 0,.slice none 0 0,.bool false,.slice none 0 0],40),(bk1,#[.slice none 0 0,.slice none 0 0,.bool false,.slice none 0 0],32)] rfl rfl rfl rfl sz32 hZ13 rfl rfl (zzF (by kernel_rfl)) (by kernel_rfl) (by kernel_rfl) (by kernel_rfl) (fun W7 hZ14=>?_))
 clear hZ13
 simp only [Stop,Act.put,zzC,zzD,zzE]
 go_wp2
 obtain ⟨XR4,hZ15⟩:∃ Xr,Zs w W7 X0 Xr [(bk3,#[p.v,s.v,.bool c_.b,.slice c_.a c_.n c_.c],32),(bk2,#[.slice none 0 0,.slice none 0 0,.bool false,.slice none 0 0],40),(bk1,#[.slice none 0 0,.slice none 0 0,.bool false,.slice none 0 0],32)] [c_.is,Ls n (xl k x) s,Mt n (fun _=>n) (mir c R) p,Li n (xl k x) sf,Mi n (fun _=>n) (mir c R) sm,Mi m c R rs,Li k x ls]:=⟨_,hZ14⟩
 clear hZ14
 have hne0_1:=box_ne hZ15 1 2 rfl rfl (by decide)
 have hne1_0:=box_ne hZ15 2 1 rfl rfl (by decide)
 have hVS4:∀ kq,kq ∈ ([veq (.agg #[p.v,s.v,.bool c_.b,.slice c_.a c_.n c_.c]),veq (sm.v),veq (sf.v),veq (.int .i64 cc),vuxr n (mir c R) (xl k x) (cc),veq (.int .i64 0),veq (.bool true),veq (.bool true),veq (.pointer (some ⟨bk3,0,none⟩)),veq (p.v),veq (.int .i64 (((n:Nat):Int))),veq (sm.v),veq (.int .i64 (((n:Nat):Int))),veq (.bool true),veq (.bool true),veq (.bool true),veq (.pointer (some ⟨bk3,1,none⟩)),veq (s.v),veq (.int .i64 (((n:Nat):Int))),veq (sm.v),veq (.int .i64 (((n:Nat):Int))),veq (.bool true),veq (.bool true),vstK bk1 #[p.v,s.v,.bool c_.b,.slice c_.a c_.n c_.c] 32,vstUr bk2 n (mir c R) (xl k x) (cc) 40]:List VF)→VSt kq:=by
  intro kq hkq
  simp only [List.mem_cons,List.not_mem_nil,or_false] at hkq
  rcases hkq with rfl | rfl | rfl | rfl | rfl | rfl | rfl | rfl | rfl | rfl | rfl | rfl | rfl | rfl | rfl | rfl | rfl | rfl | rfl | rfl | rfl | rfl | rfl | rfl | rfl
  ·
   exact (zve _).st
  ·
   exact (zve _).st
  ·
   exact (zve _).st
  ·
   exact (zve _).st
  ·
   exact (vuxr_se _ _ _ _).st
  ·
   exact (zve _).st
  ·
   exact (zve _).st
  ·
   exact (zve _).st
  ·
   exact (zve _).st
  ·
   exact (zve _).st
  ·
   exact (zve _).st
  ·
   exact (zve _).st
  ·
   exact (zve _).st
  ·
   exact (zve _).st
  ·
   exact (zve _).st
  ·
   exact (zve _).st
  ·
   exact (zve _).st
  ·
   exact (zve _).st
  ·
   exact (zve _).st
  ·
   exact (zve _).st
  ·
   exact (zve _).st
  ·
   exact (zve _).st
  ·
   exact (zve _).st
  ·
   exact vstK_st _ _ _
  ·
   exact vstUr_st _ _ _ _ _ _
 refine wp_region_s 25 [some 29,some 30,some 31,some 32,some 33,some 34,some 35,some 36,some 37,some 38,some 39,some 40,some 41,some 42,some 43,some 44,some 45,some 46,some 47,some 48,some 49,some 50,some 51,none,none] [veq (.agg #[p.v,s.v,.bool c_.b,.slice c_.a c_.n c_.c]),veq (sm.v),veq (sf.v),veq (.int .i64 cc),vuxr n (mir c R) (xl k x) (cc),veq (.int .i64 0),veq (.bool true),veq (.bool true),veq (.pointer (some ⟨bk3,0,none⟩)),veq (p.v),veq (.int .i64 (((n:Nat):Int))),veq (sm.v),veq (.int .i64 (((n:Nat):Int))),veq (.bool true),veq (.bool true),veq (.bool true),veq (.pointer (some ⟨bk3,1,none⟩)),veq (s.v),veq (.int .i64 (((n:Nat):Int))),veq (sm.v),veq (.int .i64 (((n:Nat):Int))),veq (.bool true),veq (.bool true),vstK bk1 #[p.v,s.v,.bool c_.b,.slice c_.a c_.n c_.c] 32,vstUr bk2 n (mir c R) (xl k x) (cc) 40] (fun _ _ X1 l1=>XR4=X1∧∃ Cz0 Cz1:Array Value,Cz0.size=4∧Cz1.size=4∧[(bk3,#[p.v,s.v,.bool c_.b,.slice c_.a c_.n c_.c],32),(bk2,Cz0,40),(bk1,Cz1,32)]=l1) [c_.is,Ls n (xl k x) s,Mt n (fun _=>n) (mir c R) p,Li n (xl k x) sf,Mi n (fun _=>n) (mir c R) sm,Mi m c R rs,Li k x ls] (by kernel_rfl) (by kernel_rfl) (by rfl) (by decide) (by rfl) (fun _=>⟨XR4,_,⟨rfl,_,_,rfl,rfl,rfl⟩,hZ15.later (Below.refl _ _).drew⟩) ?_ ?_
 ·
  intro iq hlq hiq LL uu ww aa X1 l1 hLi hLc hR hJ hd hall hev hin hold
  clear hZ15
  obtain rfl | rfl | rfl | rfl | rfl | rfl | rfl | rfl | rfl | rfl | rfl | rfl | rfl | rfl | rfl | rfl | rfl | rfl | rfl | rfl | rfl | rfl | rfl | rfl | rfl:iq=0∨iq=1∨iq=2∨iq=3∨iq=4∨iq=5∨iq=6∨iq=7∨iq=8∨iq=9∨iq=10∨iq=11∨iq=12∨iq=13∨iq=14∨iq=15∨iq=16∨iq=17∨iq=18∨iq=19∨iq=20∨iq=21∨iq=22∨iq=23∨iq=24:=by omega
  ·
   refine zos hJ (fun _=>hR) ?_
   obtain ⟨eX,Cz0,Cz1,hsCz0,hsCz1,el⟩:=hR
   subst eX
   subst el
   exact .inr ⟨rfl,fun K' hK=>wp_load 32 (.tmp 13) rfl bk3 0 4 #[p.v,s.v,.bool c_.b,.slice c_.a c_.n c_.c] #[p.v,s.v,.bool c_.b,.slice c_.a c_.n c_.c] 32 (hJ.es.at' _ (zzG (i:=0) rfl)) (zet ((hev 13 (by decide)).trans rfl)) ag32 sz32 (zzF (by kernel_rfl)) (by kernel_rfl) (hK _ _ hJ rfl zvs)⟩
  ·
   refine zos hJ (fun _=>hR) ?_
   obtain ⟨eX,Cz0,Cz1,hsCz0,hsCz1,el⟩:=hR
   subst eX
   subst el
   exact .inr ⟨rfl,fun K' hK=>wp_move (.tmp 11) rfl (zet ((hev 11 (by decide)).trans rfl)) (hK _ _ hJ rfl zvs)⟩
  ·
   refine zos hJ (fun _=>hR) ?_
   obtain ⟨eX,Cz0,Cz1,hsCz0,hsCz1,el⟩:=hR
   subst eX
   subst el
   exact .inr ⟨rfl,fun K' hK=>wp_move (.tmp 12) rfl (zet ((hev 12 (by decide)).trans rfl)) (hK _ _ hJ rfl zvs)⟩
  ·
   refine zos hJ (fun _=>hR) ?_
   obtain ⟨eX,Cz0,Cz1,hsCz0,hsCz1,el⟩:=hR
   subst eX
   subst el
   exact .inr ⟨rfl,fun K' hK=>wp_move (.tmp 2) rfl (zet ((hev 2 (by decide)).trans rfl)) (hK _ _ hJ rfl zvs)⟩
  ·
   refine zos hJ (fun _=>hR) ?_
   obtain ⟨eX,Cz0,Cz1,hsCz0,hsCz1,el⟩:=hR
   subst eX
   subst el
   refine .inr ⟨rfl,fun K' hK=>?_⟩
   refine zcz (.func 22) #[.tmp 30,.tmp 31,.tmp 32] #[22,23,2] 22 #[] #[sm.v,sf.v,.int .i64 cc] _ rfl rfl (map3 (zj (hin 1 30 rfl) (show uu 1=sm.v from (hd 1 (by decide) (by kernel_rfl)).2)) (zj (hin 2 31 rfl) (show uu 2=sf.v from (hd 2 (by decide) (by kernel_rfl)).2)) (zj (hin 3 32 rfl) (show uu 3=.int .i64 cc from (hd 3 (by decide) (by kernel_rfl)).2))) rfl (fun _ _=>rfl) (dOf8 hJ.nx sm sf (hJ.get 4 (f:=Mi n (fun _=>n) (mir c R) sm) rfl) (hJ.get 3 (f:=Li n (xl k x) sf) rfl) (by omega) (fun i j hi hj=>mir_in HR.out (Nat.lt_of_lt_of_le hi hnm) (Nat.lt_of_lt_of_le hj hnm)) (fun i _=>xl_rng HX.out i) hcc) ?_
   rintro zz ww2 ⟨p',s',c',rfl,hi_p',hi_s',ez_c',hi_c',hB⟩
   exact ⟨_,rfl,hK _ _ (hJ.later hB) ⟨p',s',c',rfl,hi_p',hi_s',ez_c',hi_c'⟩ (zvl hVS4 hB)⟩
  ·
   refine zos hJ (fun _=>hR) ?_
   obtain ⟨eX,Cz0,Cz1,hsCz0,hsCz1,el⟩:=hR
   subst eX
   subst el
   exact .inr ⟨rfl,fun K' hK=>wp_move (.tmp 14) rfl (zet ((hev 14 (by decide)).trans rfl)) (hK _ _ hJ rfl zvs)⟩
  ·
   refine zos hJ (fun _=>hR) ?_
   obtain ⟨eX,Cz0,Cz1,hsCz0,hsCz1,el⟩:=hR
   subst eX
   subst el
   exact .inr ⟨rfl,fun K' hK=>wp_eqlE (.tmp 34) (.const (.int .i64 0)) rfl (zj (hin 5 34 rfl) (show uu 5=.int .i64 0 from (hd 5 (by decide) (by kernel_rfl)).2)) rfl (r:=true) (by decide) (hK _ _ hJ rfl zvs)⟩
  ·
   refine zos hJ (fun _=>hR) ?_
   obtain ⟨eX,Cz0,Cz1,hsCz0,hsCz1,el⟩:=hR
   subst eX
   subst el
   exact .inr ⟨rfl,fun K' hK=>wp_move (.tmp 35) rfl (zj (hin 6 35 rfl) (show uu 6=.bool true from (hd 6 (by decide) (by kernel_rfl)).2)) (hK _ _ hJ rfl zvs)⟩
  ·
   refine zos hJ (fun _=>hR) ?_
   obtain ⟨eX,Cz0,Cz1,hsCz0,hsCz1,el⟩:=hR
   subst eX
   subst el
   exact .inr ⟨(wanted_at (g:=7) (b:=true) (t:=36) rfl rfl ((hin 7 36 rfl).trans (congrArg some (show uu 7=.bool true from (hd 7 (by decide) (by kernel_rfl)).2))) rfl),fun K' hK=>wp_fda (v:=.pointer (some ⟨bk3,0,none⟩)) 32 (.tmp 13) 0 rfl (zet ((hev 13 (by decide)).trans rfl)) (fun _=>by kernel_rfl) (hK _ _ hJ rfl zvs)⟩
  ·
   refine zos hJ (fun _=>hR) ?_
   obtain ⟨eX,Cz0,Cz1,hsCz0,hsCz1,el⟩:=hR
   subst eX
   subst el
   exact .inr ⟨(wanted_at (g:=7) (b:=true) (t:=36) rfl rfl ((hin 7 36 rfl).trans (congrArg some (show uu 7=.bool true from (hd 7 (by decide) (by kernel_rfl)).2))) rfl),fun K' hK=>wp_load1 (v:=p.v) 26 (.tmp 37) rfl bk3 0 #[p.v,s.v,.bool c_.b,.slice c_.a c_.n c_.c] 32 (hJ.es.at' _ (zzG (i:=0) rfl)) (zj (hin 8 37 rfl) (show uu 8=.pointer (some ⟨bk3,0,none⟩) from (hd 8 (by decide) (by kernel_rfl)).2)) ag26 (by kernel_rfl) (hK _ _ hJ rfl zvs)⟩
  ·
   refine zos hJ (fun _=>hR) ?_
   obtain ⟨eX,Cz0,Cz1,hsCz0,hsCz1,el⟩:=hR
   subst eX
   subst el
   exact .inr ⟨(wanted_at (g:=7) (b:=true) (t:=36) rfl rfl ((hin 7 36 rfl).trans (congrArg some (show uu 7=.bool true from (hd 7 (by decide) (by kernel_rfl)).2))) rfl),fun K' hK=>wp_lenq (.tmp 38) 26 27 p rfl (by kernel_rfl) (zj (hin 9 38 rfl) (show uu 9=p.v from (hd 9 (by decide) (by kernel_rfl)).2)) (hJ.get 2 (f:=Mt n (fun _=>n) (mir c R) p) rfl).n (hK _ _ hJ rfl zvs)⟩
  ·
   refine zos hJ (fun _=>hR) ?_
   obtain ⟨eX,Cz0,Cz1,hsCz0,hsCz1,el⟩:=hR
   subst eX
   subst el
   exact .inr ⟨(wanted_at (g:=7) (b:=true) (t:=36) rfl rfl ((hin 7 36 rfl).trans (congrArg some (show uu 7=.bool true from (hd 7 (by decide) (by kernel_rfl)).2))) rfl),fun K' hK=>wp_move (.tmp 11) rfl (zet ((hev 11 (by decide)).trans rfl)) (hK _ _ hJ rfl zvs)⟩
  ·
   refine zos hJ (fun _=>hR) ?_
   obtain ⟨eX,Cz0,Cz1,hsCz0,hsCz1,el⟩:=hR
   subst eX
   subst el
   exact .inr ⟨(wanted_at (g:=7) (b:=true) (t:=36) rfl rfl ((hin 7 36 rfl).trans (congrArg some (show uu 7=.bool true from (hd 7 (by decide) (by kernel_rfl)).2))) rfl),fun K' hK=>wp_lenq (.tmp 40) 22 23 sm rfl (by kernel_rfl) (zj (hin 11 40 rfl) (show uu 11=sm.v from (hd 11 (by decide) (by kernel_rfl)).2)) (hJ.get 4 (f:=Mi n (fun _=>n) (mir c R) sm) rfl).n (hK _ _ hJ rfl zvs)⟩
  ·
   refine zos hJ (fun _=>hR) ?_
   obtain ⟨eX,Cz0,Cz1,hsCz0,hsCz1,el⟩:=hR
   subst eX
   subst el
   exact .inr ⟨(wanted_at (g:=7) (b:=true) (t:=36) rfl rfl ((hin 7 36 rfl).trans (congrArg some (show uu 7=.bool true from (hd 7 (by decide) (by kernel_rfl)).2))) rfl),fun K' hK=>wp_eqli (.tmp 39) (.tmp 41) 3 3 rfl rfl (zj (hin 10 39 rfl) (show uu 10=.int .i64 (((n:Nat):Int)) from (hd 10 (by decide) (by kernel_rfl)).2)) (zj (hin 12 41 rfl) (show uu 12=.int .i64 (((n:Nat):Int)) from (hd 12 (by decide) (by kernel_rfl)).2)) (r:=true) (decide_eq_true rfl) (hK _ _ hJ rfl zvs)⟩
  ·
   refine zos hJ (fun _=>hR) ?_
   obtain ⟨eX,Cz0,Cz1,hsCz0,hsCz1,el⟩:=hR
   subst eX
   subst el
   exact .inr ⟨rfl,fun K' hK=>wp_pick (bv:=true) (.tmp 36) (.tmp 42) (.const (.bool false)) rfl (zj (hin 7 36 rfl) (show uu 7=.bool true from (hd 7 (by decide) (by kernel_rfl)).2)) (zj (hin 13 42 rfl) (show uu 13=.bool true from (hd 13 (by decide) (by kernel_rfl)).2)) rfl (hK _ _ hJ rfl zvs)⟩
  ·
   refine zos hJ (fun _=>hR) ?_
   obtain ⟨eX,Cz0,Cz1,hsCz0,hsCz1,el⟩:=hR
   subst eX
   subst el
   exact .inr ⟨rfl,fun K' hK=>wp_move (.tmp 43) rfl (zj (hin 14 43 rfl) (show uu 14=.bool true from (hd 14 (by decide) (by kernel_rfl)).2)) (hK _ _ hJ rfl zvs)⟩
  ·
   refine zos hJ (fun _=>hR) ?_
   obtain ⟨eX,Cz0,Cz1,hsCz0,hsCz1,el⟩:=hR
   subst eX
   subst el
   exact .inr ⟨(wanted_at (g:=15) (b:=true) (t:=44) rfl rfl ((hin 15 44 rfl).trans (congrArg some (show uu 15=.bool true from (hd 15 (by decide) (by kernel_rfl)).2))) rfl),fun K' hK=>wp_fda (v:=.pointer (some ⟨bk3,1,none⟩)) 32 (.tmp 13) 1 rfl (zet ((hev 13 (by decide)).trans rfl)) (fun _=>by kernel_rfl) (hK _ _ hJ rfl zvs)⟩
  ·
   refine zos hJ (fun _=>hR) ?_
   obtain ⟨eX,Cz0,Cz1,hsCz0,hsCz1,el⟩:=hR
   subst eX
   subst el
   exact .inr ⟨(wanted_at (g:=15) (b:=true) (t:=44) rfl rfl ((hin 15 44 rfl).trans (congrArg some (show uu 15=.bool true from (hd 15 (by decide) (by kernel_rfl)).2))) rfl),fun K' hK=>wp_load1 (v:=s.v) 27 (.tmp 45) rfl bk3 1 #[p.v,s.v,.bool c_.b,.slice c_.a c_.n c_.c] 32 (hJ.es.at' _ (zzG (i:=0) rfl)) (zj (hin 16 45 rfl) (show uu 16=.pointer (some ⟨bk3,1,none⟩) from (hd 16 (by decide) (by kernel_rfl)).2)) ag27 (by kernel_rfl) (hK _ _ hJ rfl zvs)⟩
  ·
   refine zos hJ (fun _=>hR) ?_
   obtain ⟨eX,Cz0,Cz1,hsCz0,hsCz1,el⟩:=hR
   subst eX
   subst el
   exact .inr ⟨(wanted_at (g:=15) (b:=true) (t:=44) rfl rfl ((hin 15 44 rfl).trans (congrArg some (show uu 15=.bool true from (hd 15 (by decide) (by kernel_rfl)).2))) rfl),fun K' hK=>wp_lenq (.tmp 46) 27 30 s rfl (by kernel_rfl) (zj (hin 17 46 rfl) (show uu 17=s.v from (hd 17 (by decide) (by kernel_rfl)).2)) (hJ.get 1 (f:=Ls n (xl k x) s) rfl).n (hK _ _ hJ rfl zvs)⟩
  ·
   refine zos hJ (fun _=>hR) ?_
   obtain ⟨eX,Cz0,Cz1,hsCz0,hsCz1,el⟩:=hR
   subst eX
   subst el
   exact .inr ⟨(wanted_at (g:=15) (b:=true) (t:=44) rfl rfl ((hin 15 44 rfl).trans (congrArg some (show uu 15=.bool true from (hd 15 (by decide) (by kernel_rfl)).2))) rfl),fun K' hK=>wp_move (.tmp 11) rfl (zet ((hev 11 (by decide)).trans rfl)) (hK _ _ hJ rfl zvs)⟩
  ·
   refine zos hJ (fun _=>hR) ?_
   obtain ⟨eX,Cz0,Cz1,hsCz0,hsCz1,el⟩:=hR
   subst eX
   subst el
   exact .inr ⟨(wanted_at (g:=15) (b:=true) (t:=44) rfl rfl ((hin 15 44 rfl).trans (congrArg some (show uu 15=.bool true from (hd 15 (by decide) (by kernel_rfl)).2))) rfl),fun K' hK=>wp_lenq (.tmp 48) 22 23 sm rfl (by kernel_rfl) (zj (hin 19 48 rfl) (show uu 19=sm.v from (hd 19 (by decide) (by kernel_rfl)).2)) (hJ.get 4 (f:=Mi n (fun _=>n) (mir c R) sm) rfl).n (hK _ _ hJ rfl zvs)⟩
  ·
   refine zos hJ (fun _=>hR) ?_
   obtain ⟨eX,Cz0,Cz1,hsCz0,hsCz1,el⟩:=hR
   subst eX
   subst el
   exact .inr ⟨(wanted_at (g:=15) (b:=true) (t:=44) rfl rfl ((hin 15 44 rfl).trans (congrArg some (show uu 15=.bool true from (hd 15 (by decide) (by kernel_rfl)).2))) rfl),fun K' hK=>wp_eqli (.tmp 47) (.tmp 49) 3 3 rfl rfl (zj (hin 18 47 rfl) (show uu 18=.int .i64 (((n:Nat):Int)) from (hd 18 (by decide) (by kernel_rfl)).2)) (zj (hin 20 49 rfl) (show uu 20=.int .i64 (((n:Nat):Int)) from (hd 20 (by decide) (by kernel_rfl)).2)) (r:=true) (decide_eq_true rfl) (hK _ _ hJ rfl zvs)⟩
  ·
   refine zos hJ (fun _=>hR) ?_
   obtain ⟨eX,Cz0,Cz1,hsCz0,hsCz1,el⟩:=hR
   subst eX
   subst el
   exact .inr ⟨rfl,fun K' hK=>wp_pick (bv:=true) (.tmp 44) (.tmp 50) (.const (.bool false)) rfl (zj (hin 15 44 rfl) (show uu 15=.bool true from (hd 15 (by decide) (by kernel_rfl)).2)) (zj (hin 21 50 rfl) (show uu 21=.bool true from (hd 21 (by decide) (by kernel_rfl)).2)) rfl (hK _ _ hJ rfl zvs)⟩
  ·
   obtain ⟨eX,Cz0,Cz1,hsCz0,hsCz1,el⟩:=hR
   subst eX
   subst el
   have hXb:XR4 bk1:=hJ.own _ (zzG (i:=2) rfl)
   refine .inr ⟨rfl,fun K' hK=>wp_store 32 (.tmp 8) (.tmp 29) rfl 2 bk1 0 Cz1 32 4 [p.v,s.v,.bool c_.b,.slice c_.a c_.n c_.c] hJ.es rfl (zet ((hev 8 (by decide)).trans rfl)) (by rw [(zj (hin 0 29 rfl) (show uu 0=.agg #[p.v,s.v,.bool c_.b,.slice c_.a c_.n c_.c] from (hd 0 (by decide) (by kernel_rfl)).2))]; rfl) sz32 rfl (by omega) (by kernel_rfl) (fun ww2 hE hk hz=>?_)⟩
   have hP:=(hJ.put (j:=2) rfl hE hk hz).only [c_.is,Ls n (xl k x) s,Mt n (fun _=>n) (mir c R) p,Li n (xl k x) sf,Mi n (fun _=>n) (mir c R) sm,Mi m c R rs,Li k x ls] (by simp)
   exact hK undef ww2 _ _ ⟨rfl,Cz0,putC Cz1 0 _,hsCz0,by rw [putC_size]; exact hsCz1,rfl⟩ hP (put_cl (j:=2) hE rfl (by rw [hsCz1]; rfl)) (vzL_p hXb hk hz (by
    intro kq hkq
    simp only [List.mem_cons,List.not_mem_nil,or_false] at hkq
    rcases hkq with rfl | rfl | rfl | rfl | rfl | rfl | rfl | rfl | rfl | rfl | rfl | rfl | rfl | rfl | rfl | rfl | rfl | rfl | rfl | rfl | rfl | rfl | rfl | rfl | rfl
    ·
     exact .inl ((zve _).sp _)
    ·
     exact .inl ((zve _).sp _)
    ·
     exact .inl ((zve _).sp _)
    ·
     exact .inl ((zve _).sp _)
    ·
     exact .inl ((vuxr_se _ _ _ _).sp _)
    ·
     exact .inl ((zve _).sp _)
    ·
     exact .inl ((zve _).sp _)
    ·
     exact .inl ((zve _).sp _)
    ·
     exact .inl ((zve _).sp _)
    ·
     exact .inl ((zve _).sp _)
    ·
     exact .inl ((zve _).sp _)
    ·
     exact .inl ((zve _).sp _)
    ·
     exact .inl ((zve _).sp _)
    ·
     exact .inl ((zve _).sp _)
    ·
     exact .inl ((zve _).sp _)
    ·
     exact .inl ((zve _).sp _)
    ·
     exact .inl ((zve _).sp _)
    ·
     exact .inl ((zve _).sp _)
    ·
     exact .inl ((zve _).sp _)
    ·
     exact .inl ((zve _).sp _)
    ·
     exact .inl ((zve _).sp _)
    ·
     exact .inl ((zve _).sp _)
    ·
     exact .inl ((zve _).sp _)
    ·
     exact .inr (fun _=>(put_cl (j:=2) hE rfl (by rw [hsCz1]; rfl)))
    ·
     exact .inl (vstUr_sp hne0_1 _ _ _ _ _)))
  ·
   obtain ⟨eX,Cz0,Cz1,hsCz0,hsCz1,el⟩:=hR
   subst eX
   subst el
   obtain ⟨p',s',c',e4,hi_p',hi_s',ez_c',hi_c'⟩:=(show (vuxr n (mir c R) (xl k x) (cc)) (uu 4) XR4 ww from (hd 4 (by decide) (by kernel_rfl)).2)
   replace hJ:=hJ.more (f:=Mr n (fun _=>n) (mir c R) p') (Mr.stb _ _ _ _) hi_p'
   replace hJ:=hJ.more (f:=Lr n (xl k x) s') (Lr.stb _ _ _) hi_s'
   replace hJ:=hJ.more (f:=c'.ir) c'.stbr hi_c'
   have hXb:XR4 bk2:=hJ.own _ (zzG (i:=1) rfl)
   refine .inr ⟨rfl,fun K' hK=>wp_store 40 (.tmp 9) (.tmp 33) rfl 1 bk2 0 Cz0 40 4 [p'.v,s'.v,.bool c'.b,.slice c'.a c'.n c'.c] hJ.es rfl (zet ((hev 9 (by decide)).trans rfl)) (by rw [(zj (hin 4 33 rfl) e4)]; rfl) sz40 rfl (by omega) (by kernel_rfl) (fun ww2 hE hk hz=>?_)⟩
   have hP:=(hJ.put (j:=1) rfl hE hk hz).only [c_.is,Ls n (xl k x) s,Mt n (fun _=>n) (mir c R) p,Li n (xl k x) sf,Mi n (fun _=>n) (mir c R) sm,Mi m c R rs,Li k x ls] (by simp)
   exact hK undef ww2 _ _ ⟨rfl,putC Cz0 0 _,Cz1,by rw [putC_size]; exact hsCz0,hsCz1,rfl⟩ hP ⟨p',s',c',(Mr.stb _ _ _ _ _ _ _ _ (ext_put hXb hk hz) hi_p'),(Lr.stb _ _ _ _ _ _ _ (ext_put hXb hk hz) hi_s'),ez_c',(c'.stbr _ _ _ _ (ext_put hXb hk hz) hi_c'),(put_cl (j:=1) hE rfl (by rw [hsCz0]; rfl))⟩ (vzL_p hXb hk hz (by
    intro kq hkq
    simp only [List.mem_cons,List.not_mem_nil,or_false] at hkq
    rcases hkq with rfl | rfl | rfl | rfl | rfl | rfl | rfl | rfl | rfl | rfl | rfl | rfl | rfl | rfl | rfl | rfl | rfl | rfl | rfl | rfl | rfl | rfl | rfl | rfl | rfl
    ·
     exact .inl ((zve _).sp _)
    ·
     exact .inl ((zve _).sp _)
    ·
     exact .inl ((zve _).sp _)
    ·
     exact .inl ((zve _).sp _)
    ·
     exact .inl ((vuxr_se _ _ _ _).sp _)
    ·
     exact .inl ((zve _).sp _)
    ·
     exact .inl ((zve _).sp _)
    ·
     exact .inl ((zve _).sp _)
    ·
     exact .inl ((zve _).sp _)
    ·
     exact .inl ((zve _).sp _)
    ·
     exact .inl ((zve _).sp _)
    ·
     exact .inl ((zve _).sp _)
    ·
     exact .inl ((zve _).sp _)
    ·
     exact .inl ((zve _).sp _)
    ·
     exact .inl ((zve _).sp _)
    ·
     exact .inl ((zve _).sp _)
    ·
     exact .inl ((zve _).sp _)
    ·
     exact .inl ((zve _).sp _)
    ·
     exact .inl ((zve _).sp _)
    ·
     exact .inl ((zve _).sp _)
    ·
     exact .inl ((zve _).sp _)
    ·
     exact .inl ((zve _).sp _)
    ·
     exact .inl ((zve _).sp _)
    ·
     exact .inl (vstK_sp hne1_0 _ _)
    ·
     exact .inr (fun _=>⟨p',s',c',(Mr.stb _ _ _ _ _ _ _ _ (ext_put hXb hk hz) hi_p'),(Lr.stb _ _ _ _ _ _ _ (ext_put hXb hk hz) hi_s'),ez_c',(c'.stbr _ _ _ _ (ext_put hXb hk hz) hi_c'),(put_cl (j:=1) hE rfl (by rw [hsCz0]; rfl))⟩)))
 clear hZ15
 intro LL uu W8 X1 l1 hLL hR hZ16 hd
 obtain ⟨eX,Cz0,Cz1,hsCz0,hsCz1,el⟩:=hR
 subst eX
 subst el
 have e_0:uu 0=.agg #[p.v,s.v,.bool c_.b,.slice c_.a c_.n c_.c]:=hd 0 (by decide)
 have e_1:uu 1=sm.v:=hd 1 (by decide)
 have e_2:uu 2=sf.v:=hd 2 (by decide)
 have e_3:uu 3=.int .i64 cc:=hd 3 (by decide)
 obtain ⟨p',s',c',e_4,hi_p',hi_s',ez_c',hi_c'⟩:=(show (vuxr n (mir c R) (xl k x) (cc)) (uu 4) XR4 W8 from hd 4 (by decide))
 have e_5:uu 5=.int .i64 0:=hd 5 (by decide)
 have e_6:uu 6=.bool true:=hd 6 (by decide)
 have e_7:uu 7=.bool true:=hd 7 (by decide)
 have e_8:uu 8=.pointer (some ⟨bk3,0,none⟩):=hd 8 (by decide)
 have e_9:uu 9=p.v:=hd 9 (by decide)
 have e_10:uu 10=.int .i64 (((n:Nat):Int)):=hd 10 (by decide)
 have e_11:uu 11=sm.v:=hd 11 (by decide)
 have e_12:uu 12=.int .i64 (((n:Nat):Int)):=hd 12 (by decide)
 have e_13:uu 13=.bool true:=hd 13 (by decide)
 have e_14:uu 14=.bool true:=hd 14 (by decide)
 have e_15:uu 15=.bool true:=hd 15 (by decide)
 have e_16:uu 16=.pointer (some ⟨bk3,1,none⟩):=hd 16 (by decide)
 have e_17:uu 17=s.v:=hd 17 (by decide)
 have e_18:uu 18=.int .i64 (((n:Nat):Int)):=hd 18 (by decide)
 have e_19:uu 19=sm.v:=hd 19 (by decide)
 have e_20:uu 20=.int .i64 (((n:Nat):Int)):=hd 20 (by decide)
 have e_21:uu 21=.bool true:=hd 21 (by decide)
 have e_22:uu 22=.bool true:=hd 22 (by decide)
 have hcl23:=(show (vstK bk1 #[p.v,s.v,.bool c_.b,.slice c_.a c_.n c_.c] 32) (uu 23) XR4 W8 from hd 23 (by decide))
 obtain rfl:=cl_eq (hZ16.es.at' _ (zzG (i:=2) rfl)) hcl23
 clear hcl23 hsCz1
 obtain ⟨p'_24,s'_24,c'_24,hi_p'_24,hi_s'_24,ez_c'_24,hi_c'_24,hcl24⟩:=(show (vstUr bk2 n (mir c R) (xl k x) (cc) 40) (uu 24) XR4 W8 from hd 24 (by decide))
 obtain rfl:=cl_eq (hZ16.es.at' _ (zzG (i:=1) rfl)) hcl24
 clear hcl24 hsCz0 hd hVS4
 simp only [layS,Act.put,zzC,zzD,zzE,Nat.zero_add,Nat.reduceAdd,List.drop_succ_cons,List.drop_zero,List.drop_nil,e_0,e_1,e_2,e_3,e_4,e_5,e_6,e_7,e_8,e_9,e_10,e_11,e_12,e_13,e_14,e_15,e_16,e_17,e_18,e_19,e_20,e_21,e_22]
 clear e_0 e_1 e_2 e_3 e_4 e_5 e_6 e_7 e_8 e_9 e_10 e_11 e_12 e_13 e_14 e_15 e_16 e_17 e_18 e_19 e_20 e_21 e_22
 have hZ17:=hZ16.more (f:=Mr n (fun _=>n) (mir c R) p') (Mr.stb _ _ _ _) (hi_p')
 clear hZ16
 clear hi_p'
 have hZ18:=hZ17.more (f:=Lr n (xl k x) s') (Lr.stb _ _ _) (hi_s')
 clear hZ17
 clear hi_s'
 have hZ19:=hZ18.more (f:=c'.ir) c'.stbr (hi_c')
 clear hZ18
 clear hi_c'
 have hZ20:=hZ19.more (f:=Mr n (fun _=>n) (mir c R) p'_24) (Mr.stb _ _ _ _) (hi_p'_24)
 clear hZ19
 clear hi_p'_24
 have hZ21:=hZ20.more (f:=Lr n (xl k x) s'_24) (Lr.stb _ _ _) (hi_s'_24)
 clear hZ20
 clear hi_s'_24
 have hZ22:=hZ21.more (f:=c'_24.ir) c'_24.stbr (hi_c'_24)
 clear hZ21
 clear hi_c'_24
 go_wp2
 refine bodyPost_ret (v:=.tuple #[.agg #[p.v,s.v,.bool c_.b,.slice c_.a c_.n c_.c],.agg #[p'_24.v,s'_24.v,.bool c'_24.b,.slice c'_24.a c'_24.n c'_24.c],.bool true]) (results_cct Tryz.results5 (hZ22.es.loadBox 2 rfl ag32 sz32 (zzF (by kernel_rfl)) (by kernel_rfl)) (hZ22.es.loadBox 1 rfl ag40 sz40 (zzF (by kernel_rfl)) (by kernel_rfl)) rfl rfl rfl) rfl ?_
 exact ⟨p,s,c_,p'_24,s'_24,c'_24,rfl,(hZ22.out 8 (f:=Mt n (fun _=>n) (mir c R) p) rfl),(hZ22.out 7 (f:=Ls n (xl k x) s) rfl),ez_c_,(hZ22.out 6 (f:=c_.is) rfl),(hZ22.out 2 (f:=Mr n (fun _=>n) (mir c R) p'_24) rfl),(hZ22.out 1 (f:=Lr n (xl k x) s'_24) rfl),ez_c'_24,(hZ22.out 0 (f:=c'_24.ir) rfl),hZ22.below⟩
theorem lpb_le {a:Nat} (h:a≤8):lpb 2 a≤150:=by
 have:a=0∨a=1∨a=2∨a=3∨a=4∨a=5∨a=6∨a=7∨a=8:=by omega
 rcases this with rfl | rfl | rfl | rfl | rfl | rfl | rfl | rfl | rfl <;> decide
section
variable {k r:Nat} {P:Nat→Nat→Int} {q:Nat→Int} {C:Int}
theorem dt_pos (h:Sym k P∧∀ i,i < k→0 < M.dt (i+1) P):0 < M.dt k P:=by
 cases k with
 | zero=>exact Int.zero_lt_one
 | succ k=>exact h.2 k (by omega)
end
section
variable {a b r:Nat} {P:Nat→Nat→Int} {q:Nat→Int} {C:Int}
end
section
variable {k r i j:Nat} {G:Nat→Nat→Int} {u:Nat→Int}
/-- The wide function's numbers. -/
def wdP (k:Nat) (G:Nat→Nat→Int) (i j:Nat):Int:=if i < k then 0 else if j < k then 0 else G (i - k) (j - k)
def wdQ (k:Nat) (u:Nat→Int) (i:Nat):Int:=if i < k then 0 else u (i - k)
theorem wdP_lo (h:i < k):wdP k G i j=0:=if_pos h
theorem wdP_at:wdP k G (k+i) (k+j)=G i j:=by
 unfold wdP
 rw [if_neg (by omega),if_neg (by omega),Nat.add_sub_cancel_left,Nat.add_sub_cancel_left]
theorem wdP_row:wdP k G (k+i) j=if j < k then 0 else G i (j - k):=by
 unfold wdP
 rw [if_neg (by omega),Nat.add_sub_cancel_left]
theorem wdQ_lo (h:i < k):wdQ k u i=0:=if_pos h
theorem wdQ_at:wdQ k u (k+i)=u i:=by
 unfold wdQ
 rw [if_neg (by omega),Nat.add_sub_cancel_left]
theorem wdP_sz {e:Nat} (h:∀ i j,i < r→j < r→Sz e (G i j)) (hi:i < k+r) (hj:j < k+r):Sz e (wdP k G i j):=by
 unfold wdP
 split
 ·
  exact sz_zero e
 ·
  split
  ·
   exact sz_zero e
  ·
   exact h _ _ (by omega) (by omega)
theorem wdQ_sz {e:Nat} (h:∀ i,i < r→Sz e (u i)) (hi:i < k+r):Sz e (wdQ k u i):=by
 unfold wdQ
 split
 ·
  exact sz_zero e
 ·
  exact h _ (by omega)
theorem wdP_sym (h:∀ i j,G i j=G j i) (i j:Nat):wdP k G i j=wdP k G j i:=by
 unfold wdP
 by_cases h1:i < k <;> by_cases h2:j < k <;> simp [h1,h2,h]
end
theorem fl_copied {lo m:Nat} {x:Nat→Int} {C C':Array Value} {X:Nat→Prop} {W:World} (h0:Fl 2 (EN (fun _=>0)) (lo+m) C X W) (hin:∀ i,i < m→∃ cs:List Value,cs.length=2∧(∀ j,j < 2→C'[(lo+i)*2+j]?=cs[j]?)∧EN x X W i cs) (hout:∀ j,(j < lo*2∨(lo+m)*2≤j)→C'[j]?=C[j]?):Fl 2 (EN (fun j=>if j < lo then 0 else x (j - lo))) (lo+m) C' X W:=by
 intro i hi
 by_cases h:i < lo
 ·
  obtain ⟨cs,h1,h2,p,h3,h4⟩:=h0 i hi
  exact ⟨cs,h1,fun j hj=>by rw [hout _ (.inl (by omega))]; exact h2 j hj,p,h3.trans (if_pos h).symm,h4⟩
 ·
  obtain ⟨cs,h1,h2,p,h3,h4⟩:=hin (i - lo) (by omega)
  refine ⟨cs,h1,fun j hj=>?_,p,h3.trans (if_neg h).symm,h4⟩
  have:=h2 j hj
  rw [show lo+(i - lo)=i by omega] at this
  exact this
/-- A matrix of one's own is told. -/
theorem Zs.tellMt {w W:World} {X0 X:Nat→Prop} {l:List (Nat × Array Value × TypeId)} {fs:List Fa} {s:Sl} {C:Array Value} {T:TypeId} {c:Nat→Nat} {B:Nat→Nat→Int} {n:Nat} (h:Zs w W X0 X (owl s C T++l) fs) (hx:NX X0 w) (hw:Wr 1 s C) (hn:s.n=n) (hf:Fl 1 (ER c B) n C X W):∃ X',Zs w W X0 X' l (Mt n c B s :: fs):=by
 obtain ⟨sa,sn,sc⟩:=s
 rcases hw.at_ with ⟨h1,h2⟩ | ⟨b,h1⟩
 ·
  have hcap:=hw.cap
  simp only at h1 h2 hcap hn
  subst h1 h2 hn
  obtain rfl:sn=0:=by omega
  exact ⟨X,Zs.more (l:=l) h (Mt.stb 0 c B ⟨none,0,0⟩) ⟨rfl,Nat.le_refl _,Nat.zero_le _,fun _=>⟨rfl,rfl⟩,nofun,nofun⟩⟩
 simp only at h1 hn
 subst h1 hn
 have hlt:=h.es.lt (b,C,T) (List.mem_cons_self ..)
 have hc:W.heap[b]?=some (.cells C T (0,0)):=h.es.at' (b,C,T) (List.mem_cons_self ..)
 have hr:=Zs.release (b:=b) (C:=C) (T:=T) h hx
 refine ⟨_,(hr.more (Mt.stb sn c B ⟨some ⟨b,0,none⟩,sn,sc⟩) ⟨rfl,hw.cap,hw.capm,nofun,fun q hq _=>?_,fun q hq i hi=>?_⟩).only _ (by
  intro g hg
  rcases List.mem_cons.1 hg with rfl | hg
  ·
   exact List.mem_cons_self ..
  ·
   exact List.mem_cons_of_mem _ (List.mem_cons_of_mem _ hg))⟩
 ·
  cases hq; exact ⟨rfl,hlt,fun hk=>hk.2 rfl⟩
 ·
  cases hq
  obtain ⟨cs,h1,h2,h3⟩:=hf i hi
  refine ⟨cs,h1,fun j hj=>?_,ER.stb c B i cs _ _ _ _ (Ext.less W fun k hk=>hk.1) h3⟩
  rw [← h2 j hj]
  have hsz:=hw.sz
  have hcap:=hw.cap
  simp only at hsz hcap hi
  simp only [Nat.zero_add]
  have hl2:i*1+j < C.size:=by omega
  simp [World.cell?,hc,hl2]
section
variable {k r:Nat} {P G:Nat→Nat→Int} {q u:Nat→Int} {C:Int}
theorem wd_low {i j:Nat} (h:i < k):(fun i j=>P i j+wdP k G i j) i j=P i j:=by
 show P i j+wdP k G i j=P i j
 rw [wdP_lo h]
 omega
theorem wd_dt {n:Nat} (h:n≤k):M.dt n (fun i j=>P i j+wdP k G i j)=M.dt n P:=M.dt_congr fun _ _ ha _=>wd_low (by omega)
theorem wd_def:(Sym k (fun i j=>P i j+wdP k G i j)∧∀ i,i < k→0 < M.dt (i+1) (fun i j=>P i j+wdP k G i j))↔(Sym k P∧∀ i,i < k→0 < M.dt (i+1) P):=by
 constructor
 ·
  rintro ⟨h1,h2⟩
  refine ⟨fun i j hi hj=>?_,fun i hi=>?_⟩
  ·
   have:=h1 i j hi hj
   rwa [wd_low hi,wd_low hj] at this
  ·
   have:=h2 i hi
   rwa [wd_dt (by omega)] at this
 ·
  rintro ⟨h1,h2⟩
  refine ⟨fun i j hi hj=>?_,fun i hi=>?_⟩
  ·
   rw [wd_low hi,wd_low hj]; exact h1 i j hi hj
  ·
   rw [wd_dt (by omega)]; exact h2 i hi
theorem wd_sums (x:Nat→Int):Vq r (lp k P) (lq k P q) (lc k P q C) x+Vq r G u 0 x*M.dt k P=Vq r (lp k (fun i j=>P i j+wdP k G i j)) (lq k (fun i j=>P i j+wdP k G i j) (fun i=>q i+wdQ k u i)) (lc k (fun i j=>P i j+wdP k G i j) (fun i=>q i+wdQ k u i) (C+0)) x:=by
 rw [sums_eq (P:=P) (q:=q) (C:=C) (W:=fun i j=>P i j+wdP k G i j) (w:=fun i=>q i+wdQ k u i) (E:=C+0) (fun i j hi _=>wd_low hi) (fun i hi=>by rw [wdQ_lo hi]; omega) x,Int.mul_comm]
 congr 2
 refine vq_congr (fun i j _ _=>?_) (fun i _=>?_) (by omega) fun _ _=>rfl
 ·
  rw [wdP_at]; omega
 ·
  rw [wdQ_at]; omega
end
end Go.Proofs.YtjclllindbfmhabGreatDoor
