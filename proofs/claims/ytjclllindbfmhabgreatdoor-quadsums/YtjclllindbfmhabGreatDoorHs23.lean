/- Parts of the proof. -/
import Derived.Test.YtjclllindbfmhabGreatDoorHs0
import Derived.Test.YtjclllindbfmhabGreatDoorHs22
import Derived.Test.YtjclllindbfmhabGreatDoorHs20
set_option linter.unusedSimpArgs false
set_option linter.unusedVariables false
namespace Go.Proofs.YtjclllindbfmhabGreatDoor
/- Package lin: the walks of condensed with its closures, and of firstWithHead. No statement of the seat is proved here. -/
open Go Go.RowKit
/-- The first place below m at which f is not 0; m, if there is none. -/
def pvl:Nat→(Nat→Int)→Nat
 | 0,_=>0
 | m+1,f=>if f 0=0 then pvl m (fun i=>f (i+1))+1 else 0
theorem pvl_eq:∀ {m r:Nat} {f:Nat→Int},r≤m→(∀ k,k < r→f k=0)→(r < m→f r ≠ 0)→pvl m f=r
 | 0,r,_,h,_,_=>by rw [show r=0 by omega]; rfl
 | m+1,0,f,_,_,h=>by unfold pvl; rw [if_neg (h (by omega))]
 | m+1,r+1,f,h1,h2,h3=>by
  unfold pvl
  rw [if_pos (h2 0 (by omega)),pvl_eq (r:=r) (by omega) (fun k hk=>h2 (k+1) (by omega)) (fun h=>h3 (by omega))]
theorem pvl_le:∀ (m:Nat) (f:Nat→Int),pvl m f≤m
 | 0,_=>Nat.le_refl _
 | m+1,f=>by unfold pvl; split; have:=pvl_le m (fun i=>f (i+1)); omega; omega
theorem pvl_zero:∀ {m:Nat} {f:Nat→Int} {k:Nat},k < pvl m f→f k=0
 | 0,_,_,h=>absurd h (Nat.not_lt_zero _)
 | m+1,f,0,h=>by
  unfold pvl at h
  split at h
  ·
   assumption
  ·
   omega
 | m+1,f,k+1,h=>by
  unfold pvl at h
  split at h
  ·
   exact pvl_zero (m:=m) (f:=fun i=>f (i+1)) (by omega)
  ·
   omega
theorem pvl_ne:∀ {m:Nat} {f:Nat→Int},pvl m f < m→f (pvl m f) ≠ 0
 | 0,_,h=>absurd h (Nat.not_lt_zero _)
 | m+1,f,h=>by
  unfold pvl at h ⊢
  split
  ·
   next e =>
   rw [if_pos e] at h
   exact pvl_ne (m:=m) (f:=fun i=>f (i+1)) (by omega)
  ·
   assumption
theorem sgnI_ne {z:Int}:(sgnI z ≠ 0)=(z ≠ 0):=by
 refine propext ?_
 unfold sgnI
 split
 ·
  omega
 ·
  split <;> omega
set_option maxRecDepth 100000 in
set_option maxHeartbeats 12800000 in
theorem lCo11 {X0:Nat→Prop} {w:World} (hX:NX X0 w) {c e f:Nat} {tp rw_:Sl} {dl:NL} {x y:Nat→Int} {d:Int} (bT bR bL j:Nat) (hj:j < c) (hc:c≤1000) (cT_:Cf bT #[tp.v] 27 X0 w) (cR:Cf bR #[rw_.v] 27 X0 w) (cL:Cf bL #[.bool dl.b,.slice dl.a dl.n dl.c] 30 X0 w) (htp:Ls (c+1) x tp X0 w) (hrw:Ls (c+1) y rw_ X0 w) (hdl:dl.is X0 w) (ez_dl:dl.z=d) (bx:∀ k,k < c+1→Sz e (x k)) (by_:∀ k,k < c+1→Sz e (y k)) (bd:Sz f d) (he:e≤1000000) (hf:f≤9000000) (hd0:d ≠ 0):Calls Tryz.prog 96 #[.int .i64 ((j:Nat):Int),.pointer (some ⟨bT,0,none⟩),.pointer (some ⟨bR,0,none⟩),.pointer (some ⟨bL,0,none⟩)] w (PNX X0 (Int.fdiv (x 0*y (j+1) - y 0*x (j+1)) d) w):=by
 have hZ0:=zs_start hX
 have hZ1:=hZ0.more (f:=Cf bL #[.bool dl.b,.slice dl.a dl.n dl.c] 30) (Cf.stb _ _ _) cL
 clear hZ0
 have hZ2:=hZ1.more (f:=Cf bR #[rw_.v] 27) (Cf.stb _ _ _) cR
 clear hZ1
 have hZ3:=hZ2.more (f:=Cf bT #[tp.v] 27) (Cf.stb _ _ _) cT_
 clear hZ2
 have hZ4:=hZ3.more (f:=Ls (c+1) x tp) (Ls.stb _ _ _) htp
 clear hZ3
 have hZ5:=hZ4.more (f:=Ls (c+1) y rw_) (Ls.stb _ _ _) hrw
 clear hZ4
 have hZ6:=hZ5.more (f:=dl.is) dl.stb hdl
 clear hZ5
 go_enter Tryz.func96,Tryz.ntmps96
 go_wp2_with (refine zsa 30 #[.bool false,.slice none 0 0] (.agg #[.bool false,.slice none 0 0]) rfl rfl zv30 rfl hZ6 (fun bk1 X7 W1 hZ7=>?_))
 clear hZ6
 simp only [Stop,Act.put,zzC,zzD,zzE]
 go_wp2
 have hM:Zs w W1.drew X0 X7 [(bk1,#[.bool false,.slice none 0 0],30)] [dl.is,Ls (c+1) y rw_,Ls (c+1) x tp,Cf bT #[tp.v] 27,Cf bR #[rw_.v] 27,Cf bL #[.bool dl.b,.slice dl.a dl.n dl.c] 30]∧Below W1.heap.size W1 W1.drew:=⟨hZ7.later (Below.refl _ _).drew,(Below.refl _ _).drew⟩
 clear hZ7
 have hVS1:∀ k,k ∈ ([veq (tp.v),veq ((tp.at 2 0)),vnum (x 0),veq (rw_.v),veq (.int .i64 (((j:Nat):Int))),veq (.int .i64 (((j+1:Nat):Int))),veq ((rw_.at 2 (j+1))),vnum (y (j+1)),vnum ((x 0)*(y (j+1))),veq (rw_.v),veq ((rw_.at 2 0)),vnum (y 0),veq (tp.v),veq (.int .i64 (((j:Nat):Int))),veq (.int .i64 (((j+1:Nat):Int))),veq ((tp.at 2 (j+1))),vnum (x (j+1)),vnum ((y 0)*(x (j+1))),vnum (((x 0)*(y (j+1))) - ((y 0)*(x (j+1)))),veq (dl.v),vnum (Int.fdiv (((x 0)*(y (j+1))) - ((y 0)*(x (j+1)))) d)]:List VF)→VSt k:=by
  intro k hk
  simp only [List.mem_cons,List.not_mem_nil,or_false] at hk
  rcases hk with rfl | rfl | rfl | rfl | rfl | rfl | rfl | rfl | rfl | rfl | rfl | rfl | rfl | rfl | rfl | rfl | rfl | rfl | rfl | rfl | rfl
  ·
   exact veq_st _
  ·
   exact veq_st _
  ·
   exact vnum_st _
  ·
   exact veq_st _
  ·
   exact veq_st _
  ·
   exact veq_st _
  ·
   exact veq_st _
  ·
   exact vnum_st _
  ·
   exact vnum_st _
  ·
   exact veq_st _
  ·
   exact veq_st _
  ·
   exact vnum_st _
  ·
   exact veq_st _
  ·
   exact veq_st _
  ·
   exact veq_st _
  ·
   exact veq_st _
  ·
   exact vnum_st _
  ·
   exact vnum_st _
  ·
   exact vnum_st _
  ·
   exact veq_st _
  ·
   exact vnum_st _
 refine wp_region_q 21 [some 6,some 7,some 8,some 9,some 10,some 11,some 12,some 13,some 14,some 15,some 16,some 17,some 18,some 19,some 20,some 21,some 22,some 23,some 24,some 25,some 26] (vzL [veq (tp.v),veq ((tp.at 2 0)),vnum (x 0),veq (rw_.v),veq (.int .i64 (((j:Nat):Int))),veq (.int .i64 (((j+1:Nat):Int))),veq ((rw_.at 2 (j+1))),vnum (y (j+1)),vnum ((x 0)*(y (j+1))),veq (rw_.v),veq ((rw_.at 2 0)),vnum (y 0),veq (tp.v),veq (.int .i64 (((j:Nat):Int))),veq (.int .i64 (((j+1:Nat):Int))),veq ((tp.at 2 (j+1))),vnum (x (j+1)),vnum ((y 0)*(x (j+1))),vnum (((x 0)*(y (j+1))) - ((y 0)*(x (j+1)))),veq (dl.v),vnum (Int.fdiv (((x 0)*(y (j+1))) - ((y 0)*(x (j+1)))) d)] X7) (fun W=>Zs w W X0 X7 [(bk1,#[.bool false,.slice none 0 0],30)] [dl.is,Ls (c+1) y rw_,Ls (c+1) x tp,Cf bT #[tp.v] 27,Cf bR #[rw_.v] 27,Cf bL #[.bool dl.b,.slice dl.a dl.n dl.c] 30]∧Below W1.heap.size W1 W) (by kernel_rfl) (by kernel_rfl) (by rfl) (by decide) (by rfl) hM ?_ ?_
 ·
  intro i hl hi LL uu ww aa hLi hLc hJ hd hev hin hold
  clear hM
  obtain ⟨hJ,hJb⟩:=hJ
  obtain rfl | rfl | rfl | rfl | rfl | rfl | rfl | rfl | rfl | rfl | rfl | rfl | rfl | rfl | rfl | rfl | rfl | rfl | rfl | rfl | rfl:i=0∨i=1∨i=2∨i=3∨i=4∨i=5∨i=6∨i=7∨i=8∨i=9∨i=10∨i=11∨i=12∨i=13∨i=14∨i=15∨i=16∨i=17∨i=18∨i=19∨i=20:=by omega
  ·
   exact .inr ⟨rfl,fun K' hK=>wp_load1 (v:=tp.v) 27 (.tmp 1) rfl bT 0 #[tp.v] 27 (hJ.get 3 (f:=Cf bT #[tp.v] 27) rfl).1 (zet ((hev 1 (by decide)).trans rfl)) ag27 (by kernel_rfl) (hK _ _ ⟨hJ,hJb⟩ rfl zvs)⟩
  ·
   exact .inr ⟨rfl,fun K' hK=>wp_ixs 27 (.tmp 6) (.const (.int .i64 0)) tp 0 2 30 rfl (zet ((hin 0 6 rfl).trans (congrArg some (show uu 0=tp.v from hd 0 (by decide) (by kernel_rfl))))) rfl (by kernel_rfl) sz30 (fun h=>((hJ.get 2 (f:=Ls (c+1) x tp) rfl).sq.nil h).1) ((hJ.get 2 (f:=Ls (c+1) x tp) rfl).n ▸ (by omega)) (hK _ _ ⟨hJ,hJb⟩ rfl zvs)⟩
  ·
   exact .inr ⟨rfl,fun K' hK=>wp_ldn 30 (.tmp 7) tp 0 ((c+1)) x rfl (zet ((hin 1 7 rfl).trans (congrArg some (show uu 1=(tp.at 2 0) from hd 1 (by decide) (by kernel_rfl))))) (hJ.get 2 (f:=Ls (c+1) x tp) rfl) (by omega) ag30 sz30 (fun q1 ez_q1 hi_q1=>hK _ _ ⟨hJ,hJb⟩ ⟨q1,rfl,ez_q1,hi_q1⟩ zvs)⟩
  ·
   exact .inr ⟨rfl,fun K' hK=>wp_load1 (v:=rw_.v) 27 (.tmp 2) rfl bR 0 #[rw_.v] 27 (hJ.get 4 (f:=Cf bR #[rw_.v] 27) rfl).1 (zet ((hev 2 (by decide)).trans rfl)) ag27 (by kernel_rfl) (hK _ _ ⟨hJ,hJb⟩ rfl zvs)⟩
  ·
   exact .inr ⟨rfl,fun K' hK=>wp_move (.tmp 0) rfl (zet ((hev 0 (by decide)).trans rfl)) (hK _ _ ⟨hJ,hJb⟩ rfl zvs)⟩
  ·
   exact .inr ⟨rfl,fun K' hK=>wp_addi (.tmp 10) (.const (.int .i64 1)) rfl (zet ((hin 4 10 rfl).trans (congrArg some (show uu 4=.int .i64 (((j:Nat):Int)) from hd 4 (by decide) (by kernel_rfl))))) rfl (C:=((j+1:Nat):Int)) (by omega) (by omega) (by omega) (hK _ _ ⟨hJ,hJb⟩ rfl zvs)⟩
  ·
   exact .inr ⟨rfl,fun K' hK=>wp_ixs 27 (.tmp 9) (.tmp 11) rw_ (j+1) 2 30 rfl (zet ((hin 3 9 rfl).trans (congrArg some (show uu 3=rw_.v from hd 3 (by decide) (by kernel_rfl))))) (zet ((hin 5 11 rfl).trans (congrArg some (show uu 5=.int .i64 (((j+1:Nat):Int)) from hd 5 (by decide) (by kernel_rfl))))) (by kernel_rfl) sz30 (fun h=>((hJ.get 1 (f:=Ls (c+1) y rw_) rfl).sq.nil h).1) ((hJ.get 1 (f:=Ls (c+1) y rw_) rfl).n ▸ (by omega)) (hK _ _ ⟨hJ,hJb⟩ rfl zvs)⟩
  ·
   exact .inr ⟨rfl,fun K' hK=>wp_ldn 30 (.tmp 12) rw_ (j+1) ((c+1)) y rfl (zet ((hin 6 12 rfl).trans (congrArg some (show uu 6=(rw_.at 2 (j+1)) from hd 6 (by decide) (by kernel_rfl))))) (hJ.get 1 (f:=Ls (c+1) y rw_) rfl) (by omega) ag30 sz30 (fun q2 ez_q2 hi_q2=>hK _ _ ⟨hJ,hJb⟩ ⟨q2,rfl,ez_q2,hi_q2⟩ zvs)⟩
  ·
   obtain ⟨q1,e2,ez_q1,hi_q1⟩:=(show (vnum (x 0)) (uu 2) X7 ww from hd 2 (by decide) (by kernel_rfl))
   obtain ⟨q2,e7,ez_q2,hi_q2⟩:=(show (vnum (y (j+1))) (uu 7) X7 ww from hd 7 (by decide) (by kernel_rfl))
   replace hJ:=hJ.more (f:=q1.is) q1.stb hi_q1
   replace hJ:=hJ.more (f:=q2.is) q2.stb hi_q2
   refine .inr ⟨rfl,fun K' hK=>?_⟩
   refine zcz (.func 12) #[.tmp 8,.tmp 13] #[30,30] 12 #[] #[q1.v,q2.v] _ rfl rfl (map2 (zet ((hin 2 8 rfl).trans (congrArg some e2))) (zet ((hin 7 13 rfl).trans (congrArg some e7)))) rfl (fun _ _=>rfl) (zMul hJ.nx (hJ.get 1 (f:=q1.is) rfl) (hJ.get 0 (f:=q2.is) rfl) ez_q1 ez_q2 ((fun k hk=>bx k hk) 0 (by omega)) ((fun k hk=>by_ k hk) (j+1) (by omega)) (by omega) (by omega)) ?_
   rintro zz ww2 ⟨q3,rfl,ez_q3,hi_q3,hB⟩
   exact ⟨_,rfl,hK _ _ ⟨(hJ.only [dl.is,Ls (c+1) y rw_,Ls (c+1) x tp,Cf bT #[tp.v] 27,Cf bR #[rw_.v] 27,Cf bL #[.bool dl.b,.slice dl.a dl.n dl.c] 30] (by simp)).later hB,hJb.trans (hB.mono hJb.size)⟩ ⟨q3,rfl,ez_q3,hi_q3⟩ (zvl hVS1 hB)⟩
  ·
   exact .inr ⟨rfl,fun K' hK=>wp_load1 (v:=rw_.v) 27 (.tmp 2) rfl bR 0 #[rw_.v] 27 (hJ.get 4 (f:=Cf bR #[rw_.v] 27) rfl).1 (zet ((hev 2 (by decide)).trans rfl)) ag27 (by kernel_rfl) (hK _ _ ⟨hJ,hJb⟩ rfl zvs)⟩
  ·
   exact .inr ⟨rfl,fun K' hK=>wp_ixs 27 (.tmp 15) (.const (.int .i64 0)) rw_ 0 2 30 rfl (zet ((hin 9 15 rfl).trans (congrArg some (show uu 9=rw_.v from hd 9 (by decide) (by kernel_rfl))))) rfl (by kernel_rfl) sz30 (fun h=>((hJ.get 1 (f:=Ls (c+1) y rw_) rfl).sq.nil h).1) ((hJ.get 1 (f:=Ls (c+1) y rw_) rfl).n ▸ (by omega)) (hK _ _ ⟨hJ,hJb⟩ rfl zvs)⟩
  ·
   exact .inr ⟨rfl,fun K' hK=>wp_ldn 30 (.tmp 16) rw_ 0 ((c+1)) y rfl (zet ((hin 10 16 rfl).trans (congrArg some (show uu 10=(rw_.at 2 0) from hd 10 (by decide) (by kernel_rfl))))) (hJ.get 1 (f:=Ls (c+1) y rw_) rfl) (by omega) ag30 sz30 (fun q4 ez_q4 hi_q4=>hK _ _ ⟨hJ,hJb⟩ ⟨q4,rfl,ez_q4,hi_q4⟩ zvs)⟩
  ·
   exact .inr ⟨rfl,fun K' hK=>wp_load1 (v:=tp.v) 27 (.tmp 1) rfl bT 0 #[tp.v] 27 (hJ.get 3 (f:=Cf bT #[tp.v] 27) rfl).1 (zet ((hev 1 (by decide)).trans rfl)) ag27 (by kernel_rfl) (hK _ _ ⟨hJ,hJb⟩ rfl zvs)⟩
  ·
   exact .inr ⟨rfl,fun K' hK=>wp_move (.tmp 0) rfl (zet ((hev 0 (by decide)).trans rfl)) (hK _ _ ⟨hJ,hJb⟩ rfl zvs)⟩
  ·
   exact .inr ⟨rfl,fun K' hK=>wp_addi (.tmp 19) (.const (.int .i64 1)) rfl (zet ((hin 13 19 rfl).trans (congrArg some (show uu 13=.int .i64 (((j:Nat):Int)) from hd 13 (by decide) (by kernel_rfl))))) rfl (C:=((j+1:Nat):Int)) (by omega) (by omega) (by omega) (hK _ _ ⟨hJ,hJb⟩ rfl zvs)⟩
  ·
   exact .inr ⟨rfl,fun K' hK=>wp_ixs 27 (.tmp 18) (.tmp 20) tp (j+1) 2 30 rfl (zet ((hin 12 18 rfl).trans (congrArg some (show uu 12=tp.v from hd 12 (by decide) (by kernel_rfl))))) (zet ((hin 14 20 rfl).trans (congrArg some (show uu 14=.int .i64 (((j+1:Nat):Int)) from hd 14 (by decide) (by kernel_rfl))))) (by kernel_rfl) sz30 (fun h=>((hJ.get 2 (f:=Ls (c+1) x tp) rfl).sq.nil h).1) ((hJ.get 2 (f:=Ls (c+1) x tp) rfl).n ▸ (by omega)) (hK _ _ ⟨hJ,hJb⟩ rfl zvs)⟩
  ·
   exact .inr ⟨rfl,fun K' hK=>wp_ldn 30 (.tmp 21) tp (j+1) ((c+1)) x rfl (zet ((hin 15 21 rfl).trans (congrArg some (show uu 15=(tp.at 2 (j+1)) from hd 15 (by decide) (by kernel_rfl))))) (hJ.get 2 (f:=Ls (c+1) x tp) rfl) (by omega) ag30 sz30 (fun q5 ez_q5 hi_q5=>hK _ _ ⟨hJ,hJb⟩ ⟨q5,rfl,ez_q5,hi_q5⟩ zvs)⟩
  ·
   obtain ⟨q4,e11,ez_q4,hi_q4⟩:=(show (vnum (y 0)) (uu 11) X7 ww from hd 11 (by decide) (by kernel_rfl))
   obtain ⟨q5,e16,ez_q5,hi_q5⟩:=(show (vnum (x (j+1))) (uu 16) X7 ww from hd 16 (by decide) (by kernel_rfl))
   replace hJ:=hJ.more (f:=q4.is) q4.stb hi_q4
   replace hJ:=hJ.more (f:=q5.is) q5.stb hi_q5
   refine .inr ⟨rfl,fun K' hK=>?_⟩
   refine zcz (.func 12) #[.tmp 17,.tmp 22] #[30,30] 12 #[] #[q4.v,q5.v] _ rfl rfl (map2 (zet ((hin 11 17 rfl).trans (congrArg some e11))) (zet ((hin 16 22 rfl).trans (congrArg some e16)))) rfl (fun _ _=>rfl) (zMul hJ.nx (hJ.get 1 (f:=q4.is) rfl) (hJ.get 0 (f:=q5.is) rfl) ez_q4 ez_q5 ((fun k hk=>by_ k hk) 0 (by omega)) ((fun k hk=>bx k hk) (j+1) (by omega)) (by omega) (by omega)) ?_
   rintro zz ww2 ⟨q6,rfl,ez_q6,hi_q6,hB⟩
   exact ⟨_,rfl,hK _ _ ⟨(hJ.only [dl.is,Ls (c+1) y rw_,Ls (c+1) x tp,Cf bT #[tp.v] 27,Cf bR #[rw_.v] 27,Cf bL #[.bool dl.b,.slice dl.a dl.n dl.c] 30] (by simp)).later hB,hJb.trans (hB.mono hJb.size)⟩ ⟨q6,rfl,ez_q6,hi_q6⟩ (zvl hVS1 hB)⟩
  ·
   obtain ⟨q3,e8,ez_q3,hi_q3⟩:=(show (vnum ((x 0)*(y (j+1)))) (uu 8) X7 ww from hd 8 (by decide) (by kernel_rfl))
   obtain ⟨q6,e17,ez_q6,hi_q6⟩:=(show (vnum ((y 0)*(x (j+1)))) (uu 17) X7 ww from hd 17 (by decide) (by kernel_rfl))
   replace hJ:=hJ.more (f:=q3.is) q3.stb hi_q3
   replace hJ:=hJ.more (f:=q6.is) q6.stb hi_q6
   refine .inr ⟨rfl,fun K' hK=>?_⟩
   refine zcz (.func 35) #[.tmp 14,.tmp 23] #[30,30] 35 #[] #[q3.v,q6.v] _ rfl rfl (map2 (zet ((hin 8 14 rfl).trans (congrArg some e8))) (zet ((hin 17 23 rfl).trans (congrArg some e17)))) rfl (fun _ _=>rfl) (zSub hJ.nx (hJ.get 1 (f:=q3.is) rfl) (hJ.get 0 (f:=q6.is) rfl) ez_q3 ez_q6 (Sz.mul ((fun k hk=>bx k hk) 0 (by omega)) ((fun k hk=>by_ k hk) (j+1) (by omega))) (Sz.mul ((fun k hk=>by_ k hk) 0 (by omega)) ((fun k hk=>bx k hk) (j+1) (by omega))) (by omega) (by omega)) ?_
   rintro zz ww2 ⟨q7,rfl,ez_q7,hi_q7,hB⟩
   exact ⟨_,rfl,hK _ _ ⟨(hJ.only [dl.is,Ls (c+1) y rw_,Ls (c+1) x tp,Cf bT #[tp.v] 27,Cf bR #[rw_.v] 27,Cf bL #[.bool dl.b,.slice dl.a dl.n dl.c] 30] (by simp)).later hB,hJb.trans (hB.mono hJb.size)⟩ ⟨q7,rfl,ez_q7,hi_q7⟩ (zvl hVS1 hB)⟩
  ·
   exact .inr ⟨rfl,fun K' hK=>wp_load 30 (.tmp 3) rfl bL 0 2 #[.bool dl.b,.slice dl.a dl.n dl.c] #[.bool dl.b,.slice dl.a dl.n dl.c] 30 (hJ.get 5 (f:=Cf bL #[.bool dl.b,.slice dl.a dl.n dl.c] 30) rfl).1 (zet ((hev 3 (by decide)).trans rfl)) ag30 sz30 (zzF (by kernel_rfl)) (by kernel_rfl) (hK _ _ ⟨hJ,hJb⟩ rfl zvs)⟩
  ·
   obtain ⟨q7,e18,ez_q7,hi_q7⟩:=(show (vnum (((x 0)*(y (j+1))) - ((y 0)*(x (j+1))))) (uu 18) X7 ww from hd 18 (by decide) (by kernel_rfl))
   replace hJ:=hJ.more (f:=q7.is) q7.stb hi_q7
   refine .inr ⟨rfl,fun K' hK=>?_⟩
   refine zcz (.func 94) #[.tmp 24,.tmp 25] #[30,30] 94 #[] #[q7.v,dl.v] _ rfl rfl (map2 (zet ((hin 18 24 rfl).trans (congrArg some e18))) (zet ((hin 19 25 rfl).trans (congrArg some (show uu 19=dl.v from hd 19 (by decide) (by kernel_rfl)))))) rfl (fun _ _=>rfl) (lOver hJ.nx q7 dl ez_q7 ez_dl (hJ.get 0 (f:=q7.is) rfl) (hJ.get 1 (f:=dl.is) rfl) ((Sz.minus (Sz.mono (Sz.mul ((fun k hk=>bx k hk) 0 (by omega)) ((fun k hk=>by_ k hk) (j+1) (by omega))) (Nat.le_add_right _ (e+e))) (Sz.mono (Sz.mul ((fun k hk=>by_ k hk) 0 (by omega)) ((fun k hk=>bx k hk) (j+1) (by omega))) (Nat.le_add_left _ (e+e))))) bd (by omega) (by omega) hd0) ?_
   rintro zz ww2 ⟨q8,rfl,ez_q8,hi_q8,hB⟩
   exact ⟨_,rfl,hK _ _ ⟨(hJ.only [dl.is,Ls (c+1) y rw_,Ls (c+1) x tp,Cf bT #[tp.v] 27,Cf bR #[rw_.v] 27,Cf bL #[.bool dl.b,.slice dl.a dl.n dl.c] 30] (by simp)).later hB,hJb.trans (hB.mono hJb.size)⟩ ⟨q8,rfl,ez_q8,hi_q8⟩ (zvl hVS1 hB)⟩
 clear hM
 intro uu W2 hZ8p hd
 obtain ⟨hZ8,hb1⟩:=hZ8p
 have e_0:uu 0=tp.v:=hd 0 (by decide)
 have e_1:uu 1=(tp.at 2 0):=hd 1 (by decide)
 obtain ⟨q1,e_2,ez_q1,hi_q1⟩:=(show (vnum (x 0)) (uu 2) X7 W2 from hd 2 (by decide))
 have e_3:uu 3=rw_.v:=hd 3 (by decide)
 have e_4:uu 4=.int .i64 (((j:Nat):Int)):=hd 4 (by decide)
 have e_5:uu 5=.int .i64 (((j+1:Nat):Int)):=hd 5 (by decide)
 have e_6:uu 6=(rw_.at 2 (j+1)):=hd 6 (by decide)
 obtain ⟨q2,e_7,ez_q2,hi_q2⟩:=(show (vnum (y (j+1))) (uu 7) X7 W2 from hd 7 (by decide))
 obtain ⟨q3,e_8,ez_q3,hi_q3⟩:=(show (vnum ((x 0)*(y (j+1)))) (uu 8) X7 W2 from hd 8 (by decide))
 have e_9:uu 9=rw_.v:=hd 9 (by decide)
 have e_10:uu 10=(rw_.at 2 0):=hd 10 (by decide)
 obtain ⟨q4,e_11,ez_q4,hi_q4⟩:=(show (vnum (y 0)) (uu 11) X7 W2 from hd 11 (by decide))
 have e_12:uu 12=tp.v:=hd 12 (by decide)
 have e_13:uu 13=.int .i64 (((j:Nat):Int)):=hd 13 (by decide)
 have e_14:uu 14=.int .i64 (((j+1:Nat):Int)):=hd 14 (by decide)
 have e_15:uu 15=(tp.at 2 (j+1)):=hd 15 (by decide)
 obtain ⟨q5,e_16,ez_q5,hi_q5⟩:=(show (vnum (x (j+1))) (uu 16) X7 W2 from hd 16 (by decide))
 obtain ⟨q6,e_17,ez_q6,hi_q6⟩:=(show (vnum ((y 0)*(x (j+1)))) (uu 17) X7 W2 from hd 17 (by decide))
 obtain ⟨q7,e_18,ez_q7,hi_q7⟩:=(show (vnum (((x 0)*(y (j+1))) - ((y 0)*(x (j+1))))) (uu 18) X7 W2 from hd 18 (by decide))
 have e_19:uu 19=dl.v:=hd 19 (by decide)
 obtain ⟨q8,e_20,ez_q8,hi_q8⟩:=(show (vnum (Int.fdiv (((x 0)*(y (j+1))) - ((y 0)*(x (j+1)))) d)) (uu 20) X7 W2 from hd 20 (by decide))
 clear hd hVS1
 simp only [layS,Act.put,zzC,zzD,zzE,Nat.zero_add,Nat.reduceAdd,List.drop_succ_cons,List.drop_zero,List.drop_nil,e_0,e_1,e_2,e_3,e_4,e_5,e_6,e_7,e_8,e_9,e_10,e_11,e_12,e_13,e_14,e_15,e_16,e_17,e_18,e_19,e_20]
 clear e_0 e_1 e_2 e_3 e_4 e_5 e_6 e_7 e_8 e_9 e_10 e_11 e_12 e_13 e_14 e_15 e_16 e_17 e_18 e_19 e_20
 have hZ9:=hZ8.more (f:=q1.is) q1.stb hi_q1
 clear hZ8 hi_q1
 have hZ10:=hZ9.more (f:=q2.is) q2.stb hi_q2
 clear hZ9 hi_q2
 have hZ11:=hZ10.more (f:=q3.is) q3.stb hi_q3
 clear hZ10 hi_q3
 have hZ12:=hZ11.more (f:=q4.is) q4.stb hi_q4
 clear hZ11 hi_q4
 have hZ13:=hZ12.more (f:=q5.is) q5.stb hi_q5
 clear hZ12 hi_q5
 have hZ14:=hZ13.more (f:=q6.is) q6.stb hi_q6
 clear hZ13 hi_q6
 have hZ15:=hZ14.more (f:=q7.is) q7.stb hi_q7
 clear hZ14 hi_q7
 have hZ16:=hZ15.more (f:=q8.is) q8.stb hi_q8
 clear hZ15 hi_q8
 go_wp2_with (refine zss 30 (.tmp 5) (.tmp 26) 0 bk1 0 #[.bool false,.slice none 0 0] 30 2 [.bool q8.b,.slice q8.a q8.n q8.c] #[.bool q8.b,.slice q8.a q8.n q8.c] [(bk1,#[.bool q8.b,.slice q8.a q8.n q8.c],30)] rfl rfl rfl rfl sz30 hZ16 rfl rfl (zzF (by kernel_rfl)) (by kernel_rfl) (by kernel_rfl) (by kernel_rfl) (fun W3 hZ17=>?_))
 clear hZ16
 simp only [Stop,Act.put,zzC,zzD,zzE]
 go_wp2
 exact bodyPost_ret (v:=q8.v) (results_cell 0 Tryz.results96 hZ17.es rfl ag30 sz30 (zzF (by kernel_rfl)) rfl (by kernel_rfl)) rfl ⟨q8,rfl,ez_q8,hZ17.out 0 (f:=q8.is) rfl,hZ17.below⟩
set_option maxRecDepth 100000 in
set_option maxHeartbeats 12800000 in
theorem lCo1 {X0:Nat→Prop} {w:World} (hX:NX X0 w) {m c e f:Nat} {rows tp:Sl} {dl:NL} {B:Nat→Nat→Int} {d:Int} (bW bP bT bL i p:Nat) (hi:i < m) (hp:p < m+1) (cW:Cf bW #[rows.v] 25 X0 w) (cP:Cf bP #[.int .i64 ((p:Nat):Int)] 3 X0 w) (cT_:Cf bT #[tp.v] 27 X0 w) (cL:Cf bL #[.bool dl.b,.slice dl.a dl.n dl.c] 30 X0 w) (hrows:Mt (m+1) (fun _=>c+1) B rows X0 w) (htp:Ls (c+1) (B p) tp X0 w) (hdl:dl.is X0 w) (ez_dl:dl.z=d) (bB:∀ i k,i < m+1→k < c+1→Sz e (B i k)) (bd:Sz f d) (he_:e≤1000000) (hf:f≤9000000) (hd0:d ≠ 0) (hm:m≤1000) (hc:c≤1000):Calls Tryz.prog 95 #[.int .i64 ((i:Nat):Int),.pointer (some ⟨bW,0,none⟩),.pointer (some ⟨bP,0,none⟩),.pointer (some ⟨bT,0,none⟩),.pointer (some ⟨bL,0,none⟩)] w (PLX X0 c (M.cnd B p d i) w):=by
 have hZ0:=zs_start hX
 have hZ1:=hZ0.more (f:=Cf bL #[.bool dl.b,.slice dl.a dl.n dl.c] 30) (Cf.stb _ _ _) cL
 clear hZ0
 have hZ2:=hZ1.more (f:=Cf bT #[tp.v] 27) (Cf.stb _ _ _) cT_
 clear hZ1
 have hZ3:=hZ2.more (f:=Cf bP #[.int .i64 (((p:Nat):Int))] 3) (Cf.stb _ _ _) cP
 clear hZ2
 have hZ4:=hZ3.more (f:=Cf bW #[rows.v] 25) (Cf.stb _ _ _) cW
 clear hZ3
 have hZ5:=hZ4.more (f:=Mt (m+1) (fun _=>c+1) B rows) (Mt.stb _ _ _ _) hrows
 clear hZ4
 have hZ6:=hZ5.more (f:=Ls (c+1) (B p) tp) (Ls.stb _ _ _) htp
 clear hZ5
 have hZ7:=hZ6.more (f:=dl.is) dl.stb hdl
 clear hZ6
 go_enter Tryz.func95,Tryz.ntmps95
 go_wp2_with (refine zso rfl (fun K hK=>wp_load1 (v:=rows.v) 25 (.tmp 1) rfl bW 0 #[rows.v] 25 (hZ7.get 3 (f:=Cf bW #[rows.v] 25) rfl).1 rfl ag25 (by kernel_rfl) (hK _ _ ?_)))
 simp only [Stop,Act.put,zzC,zzD,zzE]
 go_wp2_with (refine zso rfl (fun K hK=>wp_ixs 25 (.tmp 8) (.tmp 9) rows i 1 27 rfl rfl rfl (by kernel_rfl) sz27 (fun h=>((hZ7.get 2 (f:=Mt (m+1) (fun _=>c+1) B rows) rfl).sq.nil h).1) ((hZ7.get 2 (f:=Mt (m+1) (fun _=>c+1) B rows) rfl).n ▸ (by omega)) (hK _ _ ?_)))
 simp only [Stop,Act.put,zzC,zzD,zzE]
 go_wp2_with (refine zso rfl (fun K hK=>wp_ldm 27 (.tmp 10) rows i ((m+1)) (fun _=>c+1) B rfl rfl (hZ7.get 2 (f:=Mt (m+1) (fun _=>c+1) B rows) rfl) (by omega) ag27 (fun s1 hi_s1=>hK _ _ ?_)))
 simp only [Stop,Act.put,zzC,zzD,zzE]
 have hZ8:=hZ7.more (f:=Ls (c+1) (B i) s1) (Ls.stb _ _ _) hi_s1
 clear hZ7 hi_s1
 go_wp2_with (refine zsa 27 #[.slice none 0 0] (.slice none 0 0) rfl rfl zv27 rfl hZ8 (fun bk1 X9 W1 hZ9=>?_))
 clear hZ8
 simp only [Stop,Act.put,zzC,zzD,zzE]
 go_wp2_with (refine zss 27 (.tmp 7) (.tmp 11) 0 bk1 0 #[.slice none 0 0] 27 1 [s1.v] #[s1.v] [(bk1,#[s1.v],27)] rfl rfl rfl rfl sz27 hZ9 rfl rfl (zzF (by kernel_rfl)) (by kernel_rfl) (by kernel_rfl) (by kernel_rfl) (fun W2 hZ10=>?_))
 clear hZ9
 simp only [Stop,Act.put,zzC,zzD,zzE]
 by_cases hpi:p≤i
 ·
  go_wp2_with (refine zso rfl (fun K hK=>wp_load1 (v:=.int .i64 (((p:Nat):Int))) 3 (.tmp 2) rfl bP 0 #[.int .i64 (((p:Nat):Int))] 3 (hZ10.get 5 (f:=Cf bP #[.int .i64 (((p:Nat):Int))] 3) rfl).1 rfl ag3 (by kernel_rfl) (hK _ _ ?_)))
  simp only [Stop,Act.put,zzC,zzD,zzE]
  go_wp2_with (refine zso rfl (fun K hK=>wp_geqi (.tmp 12) (.tmp 13) rfl rfl rfl (r:=true) (decide_eq_true (by omega)) (hK _ _ ?_)))
  simp only [Stop,Act.put,zzC,zzD,zzE]
  go_wp2_with (refine zso rfl (fun K hK=>wp_load1 (v:=rows.v) 25 (.tmp 1) rfl bW 0 #[rows.v] 25 (hZ10.get 4 (f:=Cf bW #[rows.v] 25) rfl).1 rfl ag25 (by kernel_rfl) (hK _ _ ?_)))
  simp only [Stop,Act.put,zzC,zzD,zzE]
  go_wp2_with (refine zso rfl (fun K hK=>wp_addi (.tmp 16) (.const (.int .i64 1)) rfl rfl rfl (C:=((i+1:Nat):Int)) (by omega) (by omega) (by omega) (hK _ _ ?_)))
  simp only [Stop,Act.put,zzC,zzD,zzE]
  go_wp2_with (refine zso rfl (fun K hK=>wp_ixs 25 (.tmp 15) (.tmp 17) rows (i+1) 1 27 rfl rfl rfl (by kernel_rfl) sz27 (fun h=>((hZ10.get 3 (f:=Mt (m+1) (fun _=>c+1) B rows) rfl).sq.nil h).1) ((hZ10.get 3 (f:=Mt (m+1) (fun _=>c+1) B rows) rfl).n ▸ (by omega)) (hK _ _ ?_)))
  simp only [Stop,Act.put,zzC,zzD,zzE]
  go_wp2_with (refine zso rfl (fun K hK=>wp_ldm 27 (.tmp 18) rows (i+1) ((m+1)) (fun _=>c+1) B rfl rfl (hZ10.get 3 (f:=Mt (m+1) (fun _=>c+1) B rows) rfl) (by omega) ag27 (fun s2 hi_s2=>hK _ _ ?_)))
  simp only [Stop,Act.put,zzC,zzD,zzE]
  have hZ11:=hZ10.more (f:=Ls (c+1) (B (i+1)) s2) (Ls.stb _ _ _) hi_s2
  clear hZ10 hi_s2
  go_wp2_with (refine zss 27 (.tmp 7) (.tmp 19) 0 bk1 0 #[s1.v] 27 1 [s2.v] #[s2.v] [(bk1,#[s2.v],27)] rfl rfl rfl rfl sz27 hZ11 rfl rfl (zzF (by kernel_rfl)) (by kernel_rfl) (by kernel_rfl) (by kernel_rfl) (fun W3 hZ12=>?_))
  clear hZ11
  simp only [Stop,Act.put,zzC,zzD,zzE]
  have hZ13:=hZ12.release hX
  clear hZ12
  go_wp2_with (refine zso rfl (fun K hK=>wp_load1 (v:=s2.v) 27 (.tmp 7) rfl bk1 0 #[s2.v] 27 (hZ13.get 0 (f:=Cf bk1 #[s2.v] 27) rfl).1 rfl ag27 (by kernel_rfl) (hK _ _ ?_)))
  simp only [Stop,Act.put,zzC,zzD,zzE]
  go_wp2_with (refine zso rfl (fun K hK=>wp_lenq (.tmp 20) 27 30 s2 rfl (by kernel_rfl) rfl (hZ13.get 1 (f:=Ls (c+1) (B (i+1)) s2) rfl).n (hK _ _ ?_)))
  simp only [Stop,Act.put,zzC,zzD,zzE]
  go_wp2_with (refine zso rfl (fun K hK=>wp_subi (.tmp 21) (.const (.int .i64 1)) rfl rfl rfl (C:=((c:Nat):Int)) (by omega) (by omega) (by omega) (hK _ _ ?_)))
  simp only [Stop,Act.put,zzC,zzD,zzE]
  go_wp2_with (refine zso rfl (fun K hK=>wp_mkf 96 #[.tmp 3,.tmp 7,.tmp 4] #[.pointer (some ⟨bT,0,none⟩),.pointer (some ⟨bk1,0,none⟩),.pointer (some ⟨bL,0,none⟩)] rfl (map3 rfl rfl rfl) (hK _ _ ?_)))
  simp only [Stop,Act.put,zzC,zzD,zzE]
  go_wp2_with fail
  refine (lMadeN hZ13.nx c 96 #[.pointer (some ⟨bT,0,none⟩),.pointer (some ⟨bk1,0,none⟩),.pointer (some ⟨bL,0,none⟩)] (fun j=>Int.fdiv (B p 0*B (i+1) (j+1) - B (i+1) 0*B p (j+1)) d) hc ⟨fun _ _=>rfl,fun j hj X' W' hx he hb=>(show Calls _ _ #[.int .i64 ((j:Nat):Int),.pointer (some ⟨bT,0,none⟩),.pointer (some ⟨bk1,0,none⟩),.pointer (some ⟨bL,0,none⟩)] _ _ from lCo11 hx bT bk1 bL j hj hc (Cf.stb _ _ _ _ _ _ _ he (hZ13.get 8 (f:=Cf bT #[tp.v] 27) rfl)) (Cf.stb _ _ _ _ _ _ _ he (hZ13.get 0 (f:=Cf bk1 #[s2.v] 27) rfl)) (Cf.stb _ _ _ _ _ _ _ he (hZ13.get 9 (f:=Cf bL #[.bool dl.b,.slice dl.a dl.n dl.c] 30) rfl)) (Ls.stb _ _ _ _ _ _ _ he (hZ13.get 4 (f:=Ls (c+1) (B p) tp) rfl)) (Ls.stb _ _ _ _ _ _ _ he (hZ13.get 1 (f:=Ls (c+1) (B (i+1)) s2) rfl)) (dl.stb _ _ _ _ he (hZ13.get 3 (f:=dl.is) rfl)) ez_dl (fun k hk=>bB p k hp hk) (fun k hk=>bB (i+1) k (by omega) hk) bd he_ hf hd0)⟩).mono ?_
  rintro zz W4 ⟨s3,rfl,hi_s3,hB⟩
  have hZ14:=hZ13.later hB
  clear hB hZ13
  have hZ15:=hZ14.more (f:=Ls c (fun j=>Int.fdiv (B p 0*B (i+1) (j+1) - B (i+1) 0*B p (j+1)) d) s3) (Ls.stb _ _ _) hi_s3
  clear hZ14 hi_s3
  go_wp2
  go_ret
  exact ⟨s3,rfl,((hZ15.out 0 (f:=Ls c (fun j=>Int.fdiv (B p 0*B (i+1) (j+1) - B (i+1) 0*B p (j+1)) d) s3) rfl)).congr (fun j _=>by unfold M.cnd M.sk; rw [if_neg (by omega)]),hZ15.below⟩
 ·
  go_wp2_with (refine zso rfl (fun K hK=>wp_load1 (v:=.int .i64 (((p:Nat):Int))) 3 (.tmp 2) rfl bP 0 #[.int .i64 (((p:Nat):Int))] 3 (hZ10.get 5 (f:=Cf bP #[.int .i64 (((p:Nat):Int))] 3) rfl).1 rfl ag3 (by kernel_rfl) (hK _ _ ?_)))
  simp only [Stop,Act.put,zzC,zzD,zzE]
  go_wp2_with (refine zso rfl (fun K hK=>wp_geqi (.tmp 12) (.tmp 13) rfl rfl rfl (r:=false) (decide_eq_false (by omega)) (hK _ _ ?_)))
  simp only [Stop,Act.put,zzC,zzD,zzE]
  have hZ16:=hZ10.release hX
  clear hZ10
  go_wp2_with (refine zso rfl (fun K hK=>wp_load1 (v:=s1.v) 27 (.tmp 7) rfl bk1 0 #[s1.v] 27 (hZ16.get 0 (f:=Cf bk1 #[s1.v] 27) rfl).1 rfl ag27 (by kernel_rfl) (hK _ _ ?_)))
  simp only [Stop,Act.put,zzC,zzD,zzE]
  go_wp2_with (refine zso rfl (fun K hK=>wp_lenq (.tmp 20) 27 30 s1 rfl (by kernel_rfl) rfl (hZ16.get 1 (f:=Ls (c+1) (B i) s1) rfl).n (hK _ _ ?_)))
  simp only [Stop,Act.put,zzC,zzD,zzE]
  go_wp2_with (refine zso rfl (fun K hK=>wp_subi (.tmp 21) (.const (.int .i64 1)) rfl rfl rfl (C:=((c:Nat):Int)) (by omega) (by omega) (by omega) (hK _ _ ?_)))
  simp only [Stop,Act.put,zzC,zzD,zzE]
  go_wp2_with (refine zso rfl (fun K hK=>wp_mkf 96 #[.tmp 3,.tmp 7,.tmp 4] #[.pointer (some ⟨bT,0,none⟩),.pointer (some ⟨bk1,0,none⟩),.pointer (some ⟨bL,0,none⟩)] rfl (map3 rfl rfl rfl) (hK _ _ ?_)))
  simp only [Stop,Act.put,zzC,zzD,zzE]
  go_wp2_with fail
  refine (lMadeN hZ16.nx c 96 #[.pointer (some ⟨bT,0,none⟩),.pointer (some ⟨bk1,0,none⟩),.pointer (some ⟨bL,0,none⟩)] (fun j=>Int.fdiv (B p 0*B (i) (j+1) - B (i) 0*B p (j+1)) d) hc ⟨fun _ _=>rfl,fun j hj X' W' hx he hb=>(show Calls _ _ #[.int .i64 ((j:Nat):Int),.pointer (some ⟨bT,0,none⟩),.pointer (some ⟨bk1,0,none⟩),.pointer (some ⟨bL,0,none⟩)] _ _ from lCo11 hx bT bk1 bL j hj hc (Cf.stb _ _ _ _ _ _ _ he (hZ16.get 7 (f:=Cf bT #[tp.v] 27) rfl)) (Cf.stb _ _ _ _ _ _ _ he (hZ16.get 0 (f:=Cf bk1 #[s1.v] 27) rfl)) (Cf.stb _ _ _ _ _ _ _ he (hZ16.get 8 (f:=Cf bL #[.bool dl.b,.slice dl.a dl.n dl.c] 30) rfl)) (Ls.stb _ _ _ _ _ _ _ he (hZ16.get 3 (f:=Ls (c+1) (B p) tp) rfl)) (Ls.stb _ _ _ _ _ _ _ he (hZ16.get 1 (f:=Ls (c+1) (B i) s1) rfl)) (dl.stb _ _ _ _ he (hZ16.get 2 (f:=dl.is) rfl)) ez_dl (fun k hk=>bB p k hp hk) (fun k hk=>bB (i) k (by omega) hk) bd he_ hf hd0)⟩).mono ?_
  rintro zz W5 ⟨s4,rfl,hi_s4,hB⟩
  have hZ17:=hZ16.later hB
  clear hB hZ16
  have hZ18:=hZ17.more (f:=Ls c (fun j=>Int.fdiv (B p 0*B (i) (j+1) - B (i) 0*B p (j+1)) d) s4) (Ls.stb _ _ _) hi_s4
  clear hZ17 hi_s4
  go_wp2
  go_ret
  exact ⟨s4,rfl,((hZ18.out 0 (f:=Ls c (fun j=>Int.fdiv (B p 0*B (i) (j+1) - B (i) 0*B p (j+1)) d) s4) rfl)).congr (fun j _=>by unfold M.cnd M.sk; rw [if_pos (by omega)]),hZ18.below⟩
set_option maxRecDepth 100000 in
set_option maxHeartbeats 12800000 in
theorem lCondensed {X0:Nat→Prop} {w:World} (hX:NX X0 w) (rows:Sl) (p:Nat) (dl:NL) {m c e f:Nat} {B:Nat→Nat→Int} {d:Int} (hp:p < m+1) (hrows:Mt (m+1) (fun _=>c+1) B rows X0 w) (hdl:dl.is X0 w) (ez_dl:dl.z=d) (bB:∀ i k,i < m+1→k < c+1→Sz e (B i k)) (bd:Sz f d) (he_:e≤1000000) (hf:f≤9000000) (hd0:d ≠ 0) (hm:m≤1000) (hc:c≤1000):Calls Tryz.prog 83 #[rows.v,.int .i64 ((p:Nat):Int),dl.v] w (PMX X0 m (fun _=>c) (M.cnd B p d) w):=by
 have hZ0:=zs_start hX
 have hZ1:=hZ0.more (f:=Mt (m+1) (fun _=>c+1) B rows) (Mt.stb _ _ _ _) hrows
 clear hZ0
 have hZ2:=hZ1.more (f:=dl.is) dl.stb hdl
 clear hZ1
 go_enter Tryz.func83,Tryz.ntmps83
 go_wp2_with (refine zsb 25 (.tmp 0) #[rows.v] rfl rfl rfl hZ2 (fun bk1 X3 W1 hZ3=>?_))
 clear hZ2
 simp only [Stop,Act.put,zzC,zzD,zzE]
 go_wp2_with (refine zsb 3 (.tmp 1) #[.int .i64 (((p:Nat):Int))] rfl rfl rfl hZ3 (fun bk2 X4 W2 hZ4=>?_))
 clear hZ3
 simp only [Stop,Act.put,zzC,zzD,zzE]
 go_wp2_with (refine zsb 30 (.tmp 2) #[.bool dl.b,.slice dl.a dl.n dl.c] rfl rfl rfl hZ4 (fun bk3 X5 W3 hZ5=>?_))
 clear hZ4
 simp only [Stop,Act.put,zzC,zzD,zzE]
 go_wp2_with (refine zso rfl (fun K hK=>wp_load1 (v:=rows.v) 25 (.tmp 3) rfl bk1 0 #[rows.v] 25 (hZ5.es.at' _ (zzG (i:=2) rfl)) rfl ag25 (by kernel_rfl) (hK _ _ ?_)))
 simp only [Stop,Act.put,zzC,zzD,zzE]
 go_wp2_with (refine zso rfl (fun K hK=>wp_load1 (v:=.int .i64 (((p:Nat):Int))) 3 (.tmp 4) rfl bk2 0 #[.int .i64 (((p:Nat):Int))] 3 (hZ5.es.at' _ (zzG (i:=1) rfl)) rfl ag3 (by kernel_rfl) (hK _ _ ?_)))
 simp only [Stop,Act.put,zzC,zzD,zzE]
 go_wp2_with (refine zso rfl (fun K hK=>wp_ixs 25 (.tmp 8) (.tmp 9) rows p 1 27 rfl rfl rfl (by kernel_rfl) sz27 (fun h=>((hZ5.get 1 (f:=Mt (m+1) (fun _=>c+1) B rows) rfl).sq.nil h).1) ((hZ5.get 1 (f:=Mt (m+1) (fun _=>c+1) B rows) rfl).n ▸ (by omega)) (hK _ _ ?_)))
 simp only [Stop,Act.put,zzC,zzD,zzE]
 go_wp2_with (refine zso rfl (fun K hK=>wp_ldm 27 (.tmp 10) rows p ((m+1)) (fun _=>c+1) B rfl rfl (hZ5.get 1 (f:=Mt (m+1) (fun _=>c+1) B rows) rfl) (by omega) ag27 (fun s1 hi_s1=>hK _ _ ?_)))
 simp only [Stop,Act.put,zzC,zzD,zzE]
 have hZ6:=hZ5.more (f:=Ls (c+1) (B p) s1) (Ls.stb _ _ _) hi_s1
 clear hZ5 hi_s1
 go_wp2_with (refine zsa 27 #[.slice none 0 0] (.slice none 0 0) rfl rfl zv27 rfl hZ6 (fun bk4 X7 W4 hZ7=>?_))
 clear hZ6
 simp only [Stop,Act.put,zzC,zzD,zzE]
 go_wp2_with (refine zss 27 (.tmp 7) (.tmp 11) 0 bk4 0 #[.slice none 0 0] 27 1 [s1.v] #[s1.v] [(bk4,#[s1.v],27),(bk3,#[.bool dl.b,.slice dl.a dl.n dl.c],30),(bk2,#[.int .i64 (((p:Nat):Int))],3),(bk1,#[rows.v],25)] rfl rfl rfl rfl sz27 hZ7 rfl rfl (zzF (by kernel_rfl)) (by kernel_rfl) (by kernel_rfl) (by kernel_rfl) (fun W5 hZ8=>?_))
 clear hZ7
 simp only [Stop,Act.put,zzC,zzD,zzE]
 have hZ9:=hZ8.release hX
 clear hZ8
 have hZ10:=hZ9.release hX
 clear hZ9
 have hZ11:=hZ10.release hX
 clear hZ10
 have hZ12:=hZ11.release hX
 clear hZ11
 go_wp2_with (refine zso rfl (fun K hK=>wp_load1 (v:=rows.v) 25 (.tmp 3) rfl bk1 0 #[rows.v] 25 (hZ12.get 0 (f:=Cf bk1 #[rows.v] 25) rfl).1 rfl ag25 (by kernel_rfl) (hK _ _ ?_)))
 simp only [Stop,Act.put,zzC,zzD,zzE]
 go_wp2_with (refine zso rfl (fun K hK=>wp_lenq (.tmp 12) 25 27 rows rfl (by kernel_rfl) rfl (hZ12.get 6 (f:=Mt (m+1) (fun _=>c+1) B rows) rfl).n (hK _ _ ?_)))
 simp only [Stop,Act.put,zzC,zzD,zzE]
 go_wp2_with (refine zso rfl (fun K hK=>wp_subi (.tmp 13) (.const (.int .i64 1)) rfl rfl rfl (C:=(((m+1) - 1:Nat):Int)) (by omega) (by omega) (by omega) (hK _ _ ?_)))
 simp only [Stop,Act.put,zzC,zzD,zzE]
 go_wp2_with (refine zso rfl (fun K hK=>wp_mkf 95 #[.tmp 3,.tmp 4,.tmp 7,.tmp 5] #[.pointer (some ⟨bk1,0,none⟩),.pointer (some ⟨bk2,0,none⟩),.pointer (some ⟨bk4,0,none⟩),.pointer (some ⟨bk3,0,none⟩)] rfl (map4 rfl rfl rfl rfl) (hK _ _ ?_)))
 simp only [Stop,Act.put,zzC,zzD,zzE]
 go_wp2_with fail
 refine (lMadeL hZ12.nx ((m+1) - 1) 95 #[.pointer (some ⟨bk1,0,none⟩),.pointer (some ⟨bk2,0,none⟩),.pointer (some ⟨bk4,0,none⟩),.pointer (some ⟨bk3,0,none⟩)] (fun _=>c) (M.cnd B p d) hm ⟨fun _ _=>rfl,fun i hi X' W' hx he hb=>(show Calls _ _ #[.int .i64 ((i:Nat):Int),.pointer (some ⟨bk1,0,none⟩),.pointer (some ⟨bk2,0,none⟩),.pointer (some ⟨bk4,0,none⟩),.pointer (some ⟨bk3,0,none⟩)] _ _ from lCo1 hx bk1 bk2 bk4 bk3 i p hi hp (Cf.stb _ _ _ _ _ _ _ he (hZ12.get 0 (f:=Cf bk1 #[rows.v] 25) rfl)) (Cf.stb _ _ _ _ _ _ _ he (hZ12.get 1 (f:=Cf bk2 #[.int .i64 (((p:Nat):Int))] 3) rfl)) (Cf.stb _ _ _ _ _ _ _ he (hZ12.get 3 (f:=Cf bk4 #[s1.v] 27) rfl)) (Cf.stb _ _ _ _ _ _ _ he (hZ12.get 2 (f:=Cf bk3 #[.bool dl.b,.slice dl.a dl.n dl.c] 30) rfl)) (Mt.stb _ _ _ _ _ _ _ _ he (hZ12.get 6 (f:=Mt (m+1) (fun _=>c+1) B rows) rfl)) (Ls.stb _ _ _ _ _ _ _ he (hZ12.get 4 (f:=Ls (c+1) (B p) s1) rfl)) (dl.stb _ _ _ _ he (hZ12.get 5 (f:=dl.is) rfl)) ez_dl bB bd he_ hf hd0 hm hc)⟩).mono ?_
 rintro zz W6 ⟨s2,rfl,hi_s2,hB⟩
 have hZ13:=hZ12.later hB
 clear hB hZ12
 have hZ14:=hZ13.more (f:=Mt ((m+1) - 1) (fun _=>c) (M.cnd B p d) s2) (Mt.stb _ _ _ _) hi_s2
 clear hZ13 hi_s2
 go_wp2
 go_ret
 exact ⟨s2,rfl,hZ14.out 0 (f:=Mt ((m+1) - 1) (fun _=>c) (M.cnd B p d) s2) rfl,hZ14.below⟩
set_option maxRecDepth 100000 in
set_option maxHeartbeats 12800000 in
theorem lFirst {X0:Nat→Prop} {w:World} (hX:NX X0 w) (rows:Sl) {m c:Nat} {B:Nat→Nat→Int} (hm:m≤1000) (hrows:Mt m (fun _=>c+1) B rows X0 w):Calls Tryz.prog 84 #[rows.v] w (PVal (.int .i64 ((pvl m (fun k=>B k 0):Nat):Int)) w):=by
 have hZ0:=zs_start hX
 have hZ1:=hZ0.more (f:=Mt m (fun _=>c+1) B rows) (Mt.stb _ _ _ _) hrows
 clear hZ0
 go_enter Tryz.func84,Tryz.ntmps84
 go_wp2_with (refine zso rfl (fun K hK=>wp_lenq (.tmp 5) 25 27 rows rfl (by kernel_rfl) rfl (hZ1.get 0 (f:=Mt m (fun _=>c+1) B rows) rfl).n (hK _ _ ?_)))
 simp only [Stop,Act.put,zzC,zzD,zzE]
 go_wp2
 go_loopw [7] (fun iv wr=>∃ i:Nat,i≤m∧iv=.int .i64 ((i:Nat):Int)∧(∀ k,k < i→B k 0=0)∧∃ X:Nat→Prop,Zs w wr X0 X [] [Mt m (fun _=>c+1) B rows]) (fun iv _=>m - (intOf iv).toNat)
 case atStart=>exact ⟨0,by omega,rfl,fun k hk=>absurd hk (Nat.not_lt_zero k),_,hZ1⟩
 case round =>
  obtain ⟨i,hi,rfl,hnone,X,hZ⟩:=hrel
  by_cases hlt:i < m
  ·
   by_cases hz:B i 0=0
   ·
    have HZ:=Lib.hid hz
    clear hz
    go_wp2_with (refine zso rfl (fun K hK=>wp_lssi (.tmp 7) (.tmp 6) rfl rfl rfl (r:=true) (decide_eq_true (by omega)) (hK _ _ ?_)))
    simp only [Stop,Act.put,zzC,zzD,zzE]
    go_wp2_with (refine zso rfl (fun K hK=>wp_ixs 25 (.tmp 5) (.tmp 7) rows i 1 27 rfl rfl rfl (by kernel_rfl) sz27 (fun h=>((hZ.get 0 (f:=Mt m (fun _=>c+1) B rows) rfl).sq.nil h).1) ((hZ.get 0 (f:=Mt m (fun _=>c+1) B rows) rfl).n ▸ (by omega)) (hK _ _ ?_)))
    simp only [Stop,Act.put,zzC,zzD,zzE]
    go_wp2_with (refine zso rfl (fun K hK=>wp_ldm 27 (.tmp 10) rows i m (fun _=>c+1) B rfl rfl (hZ.get 0 (f:=Mt m (fun _=>c+1) B rows) rfl) (by omega) ag27 (fun s1 hi_s1=>hK _ _ ?_)))
    simp only [Stop,Act.put,zzC,zzD,zzE]
    have hZ2:=hZ.more (f:=Ls (c+1) (B i) s1) (Ls.stb _ _ _) hi_s1
    clear hZ hi_s1
    go_wp2_with (refine zso rfl (fun K hK=>wp_ixs 27 (.tmp 12) (.const (.int .i64 0)) s1 0 2 30 rfl rfl rfl (by kernel_rfl) sz30 (fun h=>((hZ2.get 0 (f:=Ls (c+1) (B i) s1) rfl).sq.nil h).1) ((hZ2.get 0 (f:=Ls (c+1) (B i) s1) rfl).n ▸ (by omega)) (hK _ _ ?_)))
    simp only [Stop,Act.put,zzC,zzD,zzE]
    go_wp2_with (refine zso rfl (fun K hK=>wp_ldn 30 (.tmp 13) s1 0 (c+1) (B i) rfl rfl (hZ2.get 0 (f:=Ls (c+1) (B i) s1) rfl) (by omega) ag30 sz30 (fun q2 ez_q2 hi_q2=>hK _ _ ?_)))
    simp only [Stop,Act.put,zzC,zzD,zzE]
    have hZ3:=hZ2.more (f:=q2.is) q2.stb hi_q2
    clear hZ2 hi_q2
    go_wp2_with fail
    refine (zSign (hZ3.get 0 (f:=q2.is) rfl) ez_q2).mono ?_
    rintro zz W1 ⟨rfl,hB⟩
    have hZ4:=hZ3.later hB
    clear hB hZ3
    go_wp2_with (refine zso rfl (fun K hK=>wp_neqi (.tmp 15) (.const (.int .i64 0)) 3 3 rfl rfl rfl rfl (r:=false) (decide_eq_false (by rw [sgnI_ne]; exact fun h=>h HZ.out)) (hK _ _ ?_)))
    simp only [Stop,Act.put,zzC,zzD,zzE]
    go_wp2_with (refine zso rfl (fun K hK=>wp_addi (.tmp 7) (.const (.int .i64 1)) rfl rfl rfl (C:=((i+1:Nat):Int)) (by omega) (by omega) (by omega) (hK _ _ ?_)))
    simp only [Stop,Act.put,zzC,zzD,zzE]
    have hZ5:=hZ4.only [Mt m (fun _=>c+1) B rows] (by simp)
    clear hZ4
    go_wp2
    go_roundw
    case rel=>exact ⟨i+1,by omega,by go_num,fun k hk=>by
      by_cases e:k=i
      ·
       rw [e]; exact HZ.out
      ·
       exact hnone k (by omega),_,hZ5⟩
    case measure=>simp [intOf]; omega
   ·
    go_wp2_with (refine zso rfl (fun K hK=>wp_lssi (.tmp 7) (.tmp 6) rfl rfl rfl (r:=true) (decide_eq_true (by omega)) (hK _ _ ?_)))
    simp only [Stop,Act.put,zzC,zzD,zzE]
    go_wp2_with (refine zso rfl (fun K hK=>wp_ixs 25 (.tmp 5) (.tmp 7) rows i 1 27 rfl rfl rfl (by kernel_rfl) sz27 (fun h=>((hZ.get 0 (f:=Mt m (fun _=>c+1) B rows) rfl).sq.nil h).1) ((hZ.get 0 (f:=Mt m (fun _=>c+1) B rows) rfl).n ▸ (by omega)) (hK _ _ ?_)))
    simp only [Stop,Act.put,zzC,zzD,zzE]
    go_wp2_with (refine zso rfl (fun K hK=>wp_ldm 27 (.tmp 10) rows i m (fun _=>c+1) B rfl rfl (hZ.get 0 (f:=Mt m (fun _=>c+1) B rows) rfl) (by omega) ag27 (fun s3 hi_s3=>hK _ _ ?_)))
    simp only [Stop,Act.put,zzC,zzD,zzE]
    have hZ6:=hZ.more (f:=Ls (c+1) (B i) s3) (Ls.stb _ _ _) hi_s3
    clear hZ hi_s3
    go_wp2_with (refine zso rfl (fun K hK=>wp_ixs 27 (.tmp 12) (.const (.int .i64 0)) s3 0 2 30 rfl rfl rfl (by kernel_rfl) sz30 (fun h=>((hZ6.get 0 (f:=Ls (c+1) (B i) s3) rfl).sq.nil h).1) ((hZ6.get 0 (f:=Ls (c+1) (B i) s3) rfl).n ▸ (by omega)) (hK _ _ ?_)))
    simp only [Stop,Act.put,zzC,zzD,zzE]
    go_wp2_with (refine zso rfl (fun K hK=>wp_ldn 30 (.tmp 13) s3 0 (c+1) (B i) rfl rfl (hZ6.get 0 (f:=Ls (c+1) (B i) s3) rfl) (by omega) ag30 sz30 (fun q4 ez_q4 hi_q4=>hK _ _ ?_)))
    simp only [Stop,Act.put,zzC,zzD,zzE]
    have hZ7:=hZ6.more (f:=q4.is) q4.stb hi_q4
    clear hZ6 hi_q4
    go_wp2_with fail
    refine (zSign (hZ7.get 0 (f:=q4.is) rfl) ez_q4).mono ?_
    rintro zz W2 ⟨rfl,hB⟩
    have hZ8:=hZ7.later hB
    clear hB hZ7
    go_wp2_with (refine zso rfl (fun K hK=>wp_neqi (.tmp 15) (.const (.int .i64 0)) 3 3 rfl rfl rfl rfl (r:=true) (decide_eq_true (by rw [sgnI_ne]; exact hz)) (hK _ _ ?_)))
    simp only [Stop,Act.put,zzC,zzD,zzE]
    go_wp2
    go_ret
    exact ⟨by rw [pvl_eq (r:=i) (by omega) hnone (fun _=>hz)]; rfl,hZ8.below⟩
  ·
   obtain rfl:i=m:=by omega
   go_wp2_with (refine zso rfl (fun K hK=>wp_lssi (.tmp 7) (.tmp 6) rfl rfl rfl (r:=false) (decide_eq_false (Int.lt_irrefl _)) (hK _ _ ?_)))
   simp only [Stop,Act.put,zzC,zzD,zzE]
   go_wp2_with (refine zso rfl (fun K hK=>wp_lenq (.tmp 19) 25 27 rows rfl (by kernel_rfl) rfl (hZ.get 0 (f:=Mt i (fun _=>c+1) B rows) rfl).n (hK _ _ ?_)))
   simp only [Stop,Act.put,zzC,zzD,zzE]
   go_wp2
   go_ret
   exact ⟨by rw [pvl_eq (r:=i) (by omega) hnone (fun h=>absurd h (Nat.lt_irrefl _))]; rfl,hZ.below⟩
def sgt (t:Bool):Int:=if t then -1 else 1
theorem sgt_turn (t:Bool) (p:Nat):sgt (t != decide (p % 2=1))=sgt t*M.sg p:=by
 unfold M.sg
 by_cases h:p % 2=1
 ·
  rw [if_neg (by omega),decide_eq_true h]; cases t <;> rfl
 ·
  rw [if_pos (by omega),decide_eq_false h]; cases t <;> rfl
/-- How many parts the numbers may have behind k columns. -/
def eb (e:Nat):Nat→Nat
 | 0=>e
 | k+1=>eb e k+eb e k+1
theorem eb_eq (e:Nat):∀ k,eb e k+1=(e+1)*2 ^ k
 | 0=>by simp [eb]
 | k+1=>by have:=eb_eq e k; rw [eb,Nat.pow_succ,← Nat.mul_assoc,← this]; omega
theorem eb_le {e k:Nat} (he:e≤200) (hk:k≤12):eb e k≤830000:=by
 have h:=eb_eq e k
 have h1:2 ^ k≤2 ^ 12:=Nat.pow_le_pow_right (by decide) hk
 have h2:(e+1)*2 ^ k≤201*4096:=Nat.mul_le_mul (by omega) h1
 omega
theorem eb_mono (e k:Nat):eb e k≤eb e (k+1):=by rw [eb]; omega
/-- Each of A's rows is an equation that x solves, over D. -/
def Sol (m:Nat) (A:Nat→Nat→Int) (x:Nat→Int) (D:Int):Prop:=∀ a,a < m→M.sm m (fun j=>A a j*x j)=D*A a m
structure Inv (m c e:Nat) (A:Nat→Nat→Int) (k r:Nat) (B:Nat→Nat→Int) (d:Int) (t:Bool):Prop where
 len:k+r=m
 dv:M.Dv r (c+r) B d
 det:sgt t*M.dt r B*d=d ^ r*M.dt m A
 lin:1≤c→∀ x D,Sol m A x D→∀ a,a < r→M.sm r (fun j=>B a j*x (k+j))=D*B a r
 sz:∀ a j,a < r→j < c+r→Sz (eb e k) (B a j)
 szd:Sz (eb e k) d
/-- A row that was taken. -/
structure Top (m c e:Nat) (A:Nat→Nat→Int) (k:Nat) (f:Nat→Int):Prop where
 ne:f 0 ≠ 0
 sz:∀ j,j < c+(m - k)→Sz (eb e k) (f j)
 lin:1≤c→∀ x D,Sol m A x D→M.sm (m - k) (fun j=>f j*x (k+j))=D*f (m - k)
section
variable {m c e k r:Nat} {A B:Nat→Nat→Int} {d:Int} {t:Bool}
theorem inv_start (he:1≤e) (hA:∀ a j,a < m→j < c+m→Sz e (A a j)):Inv m c e A 0 m A 1 false :=
 ⟨by omega,M.dv_one _ _ _,by rw [Int.one_pow]; simp [sgt],fun _ x D h a ha=>by simp only [Nat.zero_add]; exact h a ha,hA,sz_one.mono he⟩
theorem Inv.end_ (h:Inv m c e A k 0 B d t):M.dt m A=sgt t*d:=by
 have:=h.det
 rw [Int.pow_zero,Int.one_mul,M.dt,Int.mul_one] at this
 exact this.symm
theorem Inv.none_ (h:Inv m c e A k (r+1) B d t) (hp:pvl (r+1) (fun i=>B i 0)=r+1):M.dt m A=0:=by
 have h0:M.dt (r+1) B=0:=by
  rw [M.dt]
  exact M.sm_zero fun i hi=>by rw [show B i 0=0 from pvl_zero (f:=fun i=>B i 0) (by rw [hp]; exact hi)]; simp
 have:=h.det
 rw [h0] at this
 simp only [Int.mul_zero,Int.zero_mul] at this
 rcases Int.mul_eq_zero.1 this.symm with h1 | h1
 ·
  exact absurd h1 (Int.pow_ne_zero h.dv.1)
 ·
  exact h1
theorem Inv.top (h:Inv m c e A k (r+1) B d t) (hp:pvl (r+1) (fun i=>B i 0) < r+1):Top m c e A k (B (pvl (r+1) (fun i=>B i 0))):=by
 have hl:=h.len
 have hr:m - k=r+1:=by omega
 refine ⟨pvl_ne (f:=fun i=>B i 0) hp,fun j hj=>h.sz _ _ hp (by omega),fun hc x D hs=>?_⟩
 rw [hr]
 exact h.lin hc x D hs _ hp
theorem Inv.step (h:Inv m c e A k (r+1) B d t) (hp:pvl (r+1) (fun i=>B i 0) < r+1):Inv m c e A (k+1) r (M.cnd B (pvl (r+1) (fun i=>B i 0)) d) (B (pvl (r+1) (fun i=>B i 0)) 0) (t != decide (pvl (r+1) (fun i=>B i 0) % 2=1)):=by
 have hne:B (pvl (r+1) (fun i=>B i 0)) 0 ≠ 0:=pvl_ne (f:=fun i=>B i 0) hp
 generalize pvl (r+1) (fun i=>B i 0)=p at hp hne ⊢
 have hdv:M.Dv (r+1) (c+r+1) B d:=h.dv
 have hd:d ≠ 0:=h.dv.1
 refine ⟨by have:=h.len; omega,hdv.next hp hne,?_,fun hc x D hs a ha=>?_,fun a j ha hj=>?_,?_⟩
 ·
  have h1:=M.Dv.det (m:=r) (c:=c) (p:=p) (B:=B) (d:=d) (by rw [show r+1+c=c+r+1 by omega]; exact hdv) hp
  have h2:=h.det
  have h3:d ^ (r+1) ≠ 0:=Int.pow_ne_zero hd
  refine Int.eq_of_mul_eq_mul_left h3 ?_
  rw [sgt_turn]
  have h4:=M.sg_sq p
  have e1:d ^ (r+1)*(sgt t*M.sg p*M.dt r (M.cnd B p d)*B p 0)=sgt t*M.sg p*d*(B p 0*(d ^ r*M.dt r (M.cnd B p d))):=by rw [Int.pow_succ]; grind
  rw [e1,h1]
  have e2:sgt t*M.sg p*d*(B p 0 ^ r*(M.sg p*M.dt (r+1) B))=(M.sg p*M.sg p)*(B p 0 ^ r*(sgt t*M.dt (r+1) B*d)):=by grind
  rw [e2,h2,h4]
  grind
 ·
  have hx:∀ j,j < c+r→d*M.cnd B p d a j=B p 0*B (M.sk p a) (j+1) - B (M.sk p a) 0*B p (j+1):=fun j hj=>hdv.exact hp ha hj
  have hq:=h.lin hc x D hs (M.sk p a) (M.sk_lt ha)
  have hp':=h.lin hc x D hs p hp
  rw [M.sm_head] at hq hp'
  refine Int.eq_of_mul_eq_mul_left hd ?_
  rw [← M.sm_mul,show d*(D*M.cnd B p d a r)=D*(d*M.cnd B p d a r) by grind,hx r (by omega)]
  have e1:M.sm r (fun i=>d*(M.cnd B p d a i*x (k+1+i)))=M.sm r (fun i=>B p 0*(B (M.sk p a) (i+1)*x (k+(i+1)))+(- B (M.sk p a) 0)*(B p (i+1)*x (k+(i+1)))):=M.sm_congr fun j hj=>by
   have:=hx j (by omega)
   rw [show k+1+j=k+(j+1) by omega,show d*(M.cnd B p d a j*x (k+(j+1)))=(d*M.cnd B p d a j)*x (k+(j+1)) by grind,this]
   grind
  rw [e1,M.sm_add,M.sm_mul,M.sm_mul]
  simp only [Nat.add_zero] at hq hp'
  grind
 ·
  show Sz (eb e k+eb e k+1) (M.cnd B p d a j)
  unfold M.cnd
  refine Sz.fdiv ?_ hd
  exact Sz.minus ((h.sz p 0 hp (by omega)).mul (h.sz _ (j+1) (M.sk_lt ha) (by omega))) ((h.sz _ 0 (M.sk_lt ha) (by omega)).mul (h.sz p (j+1) hp (by omega)))
 ·
  exact (h.sz p 0 hp (by omega)).mono (eb_mono e k)
end
/-- With each row headed by what is above 0: what heads is a leading minor. -/
structure Ld (m e:Nat) (A:Nat→Nat→Int) (k r:Nat) (B:Nat→Nat→Int) (d:Int):Prop where
 len:k+r=m
 dv:M.Dv r r B d
 pos:0 < d
 lead:∀ s,s≤r→M.dt s B*d=d ^ s*M.dt (k+s) A
 sz:∀ a j,a < r→j < r→Sz (eb e k) (B a j)
 szd:Sz (eb e k) d
section
variable {m e k r:Nat} {A B:Nat→Nat→Int} {d:Int}
theorem ld_start (he:1≤e) (hA:∀ a j,a < m→j < m→Sz e (A a j)):Ld m e A 0 m A 1 :=
 ⟨by omega,M.dv_one _ _ _,by decide,fun s _=>by rw [Int.one_pow]; simp,hA,sz_one.mono he⟩
theorem dt_one (B:Nat→Nat→Int):M.dt 1 B=B 0 0:=by simp [M.dt,M.sm,M.sg]
theorem Ld.head (h:Ld m e A k (r+1) B d):B 0 0=M.dt (k+1) A:=by
 have:=h.lead 1 (by omega)
 rw [dt_one,Int.pow_succ,Int.pow_zero,Int.one_mul,Int.mul_comm] at this
 exact Int.eq_of_mul_eq_mul_left h.dv.1 this
theorem Ld.step (h:Ld m e A k (r+1) B d) (hp:0 < B 0 0):Ld m e A (k+1) r (M.cnd B 0 d) (B 0 0):=by
 have hd:d ≠ 0:=h.dv.1
 refine ⟨by have:=h.len; omega,h.dv.next (by omega) (by omega),hp,fun s hs=>?_,fun a j ha hj=>?_,(h.sz 0 0 (by omega) (by omega)).mono (eb_mono e k)⟩
 ·
  have h1:=h.dv.lead (s:=s) hs
  have h2:=h.lead (s+1) (by omega)
  have h3:d ^ (s+1) ≠ 0:=Int.pow_ne_zero hd
  refine Int.eq_of_mul_eq_mul_left h3 ?_
  have e1:d ^ (s+1)*(M.dt s (M.cnd B 0 d)*B 0 0)=d*(B 0 0*(d ^ s*M.dt s (M.cnd B 0 d))):=by rw [Int.pow_succ]; grind
  rw [e1,h1,show d*(B 0 0 ^ s*M.dt (s+1) B)=B 0 0 ^ s*(M.dt (s+1) B*d) by grind,h2,show k+1+s=k+(s+1) by omega]
  grind
 ·
  show Sz (eb e k+eb e k+1) (M.cnd B 0 d a j)
  unfold M.cnd
  refine Sz.fdiv ?_ hd
  exact Sz.minus ((h.sz 0 0 (by omega) (by omega)).mul (h.sz _ (j+1) (M.sk_lt ha) (by omega))) ((h.sz _ 0 (M.sk_lt ha) (by omega)).mul (h.sz 0 (j+1) (by omega) (by omega)))
end
/-- Its quadratic form is above 0 for all but noughts. -/
def Qf (m:Nat) (B:Nat→Nat→Int) (x:Nat→Int):Int:=M.sm m (fun i=>x i*M.mulv m B x i)
def Sym (m:Nat) (B:Nat→Nat→Int):Prop:=∀ i j,i < m→j < m→B i j=B j i
end Go.Proofs.YtjclllindbfmhabGreatDoor
