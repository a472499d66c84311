/- Parts of the proof. -/
import Derived.Test.YtjclllindbfmhabGreatDoorHs0
import Derived.Test.YtjclllindbfmhabGreatDoorHs20
import Derived.Test.YtjclllindbfmhabGreatDoorHs27
import Derived.Test.YtjclllindbfmhabGreatDoorHs28
set_option linter.unusedSimpArgs false
set_option linter.unusedVariables false
namespace Go.Proofs.YtjclllindbfmhabGreatDoor
/- Package quad: the walks of inner and made. No statement of the seat is proved here. -/
open Go Go.RowKit
set_option maxRecDepth 100000 in
set_option maxHeartbeats 12800000 in
theorem uInner {X0:Nat→Prop} {w:World} (hX:NX X0 w) (xs ys:Sl) {n m:Nat} {x y:Nat→Int} {e:Nat} (hx:Ls n x xs X0 w) (hy:Ls m y ys X0 w) (hnm:n≤m) (bx:∀ k,k < n→Sz e (x k)) (by_:∀ k,k < n→Sz e (y k)) (hn:n≤1000) (he:e≤1000000):Calls Tryz.prog 33 #[xs.v,ys.v] w (PNX X0 (M.sm n (fun k=>x k*y k)) w):=by
 have hZ0:=zs_start hX
 have hZ1:=hZ0.more (f:=Ls m y ys) (Ls.stb _ _ _) hy
 clear hZ0
 have hZ2:=hZ1.more (f:=Ls n x xs) (Ls.stb _ _ _) hx
 clear hZ1
 go_enter Tryz.func33,Tryz.ntmps33
 go_wp2_with (refine zsa 30 #[.bool false,.slice none 0 0] (.agg #[.bool false,.slice none 0 0]) rfl rfl zv30 rfl hZ2 (fun bk1 X3 W1 hZ3=>?_))
 clear hZ2
 simp only [Stop,Act.put,zzC,zzD,zzE]
 go_wp2_with (refine zsa 30 #[.bool false,.slice none 0 0] (.agg #[.bool false,.slice none 0 0]) rfl rfl zv30 rfl hZ3 (fun bk2 X4 W2 hZ4=>?_))
 clear hZ3
 simp only [Stop,Act.put,zzC,zzD,zzE]
 go_wp2_with (refine zso rfl (fun K hK=>wp_lenq (.tmp 8) 27 30 xs rfl (by kernel_rfl) rfl (hZ4.get 0 (f:=Ls n x xs) rfl).n (hK _ _ ?_)))
 simp only [Stop,Act.put,zzC,zzD,zzE]
 go_wp2
 go_loopw [10] (fun iv wr=>∃ i:Nat,i≤n∧iv=.int .i64 ((i:Nat):Int)∧∃ (p:NL) (X:Nat→Prop),p.z=M.sm i (fun k=>x k*y k)∧Zs w wr X0 X [(bk2,#[.bool p.b,.slice p.a p.n p.c],30),(bk1,#[.bool false,.slice none 0 0],30)] [p.is,Ls n x xs,Ls m y ys]) (fun iv _=>n - (intOf iv).toNat)
 case atStart=>exact ⟨0,by omega,rfl,nlz,_,rfl,hZ4.more nlz.stb (nlz_is _ _)⟩
 case round =>
  obtain ⟨i,hi,rfl,p,X,ez_p,hZ⟩:=hrel
  have hbp:Sz (e+e+i) p.z:=by rw [ez_p]; exact sm_sz (fun k hk=>Sz.mul (bx k (by omega)) (by_ k (by omega)))
  by_cases hlt:i < n
  ·
   go_wp2_with (refine zso rfl (fun K hK=>wp_lssi (.tmp 10) (.tmp 9) rfl rfl rfl (r:=true) (decide_eq_true (by omega)) (hK _ _ ?_)))
   simp only [Stop,Act.put,zzC,zzD,zzE]
   go_wp2_with (refine zso rfl (fun K hK=>wp_ixs 27 (.tmp 8) (.tmp 10) xs i 2 30 rfl rfl rfl (by kernel_rfl) sz30 (fun h=>((hZ.get 1 (f:=Ls n x xs) rfl).sq.nil h).1) ((hZ.get 1 (f:=Ls n x xs) rfl).n ▸ (by omega)) (hK _ _ ?_)))
   simp only [Stop,Act.put,zzC,zzD,zzE]
   go_wp2_with (refine zso rfl (fun K hK=>wp_ldn 30 (.tmp 13) xs i n x rfl rfl (hZ.get 1 (f:=Ls n x xs) rfl) (by omega) ag30 sz30 (fun q1 ez_q1 hi_q1=>hK _ _ ?_)))
   simp only [Stop,Act.put,zzC,zzD,zzE]
   have hZ5:=hZ.more (f:=q1.is) q1.stb hi_q1
   clear hZ hi_q1
   go_wp2_with (refine zsa 30 #[.bool false,.slice none 0 0] (.agg #[.bool false,.slice none 0 0]) rfl rfl zv30 rfl hZ5 (fun bk3 X6 W3 hZ6=>?_))
   clear hZ5
   simp only [Stop,Act.put,zzC,zzD,zzE]
   go_wp2_with (refine zss 30 (.tmp 7) (.tmp 14) 0 bk3 0 #[.bool false,.slice none 0 0] 30 2 [.bool q1.b,.slice q1.a q1.n q1.c] #[.bool q1.b,.slice q1.a q1.n q1.c] [(bk3,#[.bool q1.b,.slice q1.a q1.n q1.c],30),(bk2,#[.bool p.b,.slice p.a p.n p.c],30),(bk1,#[.bool false,.slice none 0 0],30)] rfl rfl rfl rfl sz30 hZ6 rfl rfl (zzF (by kernel_rfl)) (by kernel_rfl) (by kernel_rfl) (by kernel_rfl) (fun W4 hZ7=>?_))
   clear hZ6
   simp only [Stop,Act.put,zzC,zzD,zzE]
   go_wp2
   have hM:Zs w W4.drew X0 X6 [(bk3,#[.bool q1.b,.slice q1.a q1.n q1.c],30),(bk2,#[.bool p.b,.slice p.a p.n p.c],30),(bk1,#[.bool false,.slice none 0 0],30)] [q1.is,p.is,Ls n x xs,Ls m y ys]∧Below W4.heap.size W4 W4.drew:=⟨hZ7.later (Below.refl _ _).drew,(Below.refl _ _).drew⟩
   clear hZ7
   have hVS5:∀ k,k ∈ ([veq (p.v),veq (q1.v),veq (ys.v),veq (.int .i64 (((i:Nat):Int))),veq ((ys.at 2 i)),vnum (y i),vnum ((x i)*(y i)),vnum ((M.sm i (fun k=>x k*y k))+((x i)*(y i)))]:List VF)→VSt k:=by
    intro k hk
    simp only [List.mem_cons,List.not_mem_nil,or_false] at hk
    rcases hk with rfl | rfl | rfl | rfl | rfl | rfl | rfl | rfl
    ·
     exact veq_st _
    ·
     exact veq_st _
    ·
     exact veq_st _
    ·
     exact veq_st _
    ·
     exact veq_st _
    ·
     exact vnum_st _
    ·
     exact vnum_st _
    ·
     exact vnum_st _
   refine wp_region_q 8 [some 15,some 16,some 17,some 18,some 19,some 20,some 21,some 22] (vzL [veq (p.v),veq (q1.v),veq (ys.v),veq (.int .i64 (((i:Nat):Int))),veq ((ys.at 2 i)),vnum (y i),vnum ((x i)*(y i)),vnum ((M.sm i (fun k=>x k*y k))+((x i)*(y i)))] X6) (fun W=>Zs w W X0 X6 [(bk3,#[.bool q1.b,.slice q1.a q1.n q1.c],30),(bk2,#[.bool p.b,.slice p.a p.n p.c],30),(bk1,#[.bool false,.slice none 0 0],30)] [q1.is,p.is,Ls n x xs,Ls m y ys]∧Below W4.heap.size W4 W) (by kernel_rfl) (by kernel_rfl) (by rfl) (by decide) (by rfl) hM ?_ ?_
   ·
    intro i hl hi LL uu ww aa hLi hLc hJ hd hev hin hold
    clear hM
    obtain ⟨hJ,hJb⟩:=hJ
    obtain rfl | rfl | rfl | rfl | rfl | rfl | rfl | rfl:i=0∨i=1∨i=2∨i=3∨i=4∨i=5∨i=6∨i=7:=by omega
    ·
     exact .inr ⟨rfl,fun K' hK=>wp_load 30 (.tmp 5) rfl bk2 0 2 #[.bool p.b,.slice p.a p.n p.c] #[.bool p.b,.slice p.a p.n p.c] 30 (hJ.es.at' _ (zzG (i:=1) rfl)) (zet ((hev 5 (by decide)).trans rfl)) ag30 sz30 (zzF (by kernel_rfl)) (by kernel_rfl) (hK _ _ ⟨hJ,hJb⟩ rfl zvs)⟩
    ·
     exact .inr ⟨rfl,fun K' hK=>wp_load 30 (.tmp 7) rfl bk3 0 2 #[.bool q1.b,.slice q1.a q1.n q1.c] #[.bool q1.b,.slice q1.a q1.n q1.c] 30 (hJ.es.at' _ (zzG (i:=0) rfl)) (zet ((hev 7 (by decide)).trans rfl)) ag30 sz30 (zzF (by kernel_rfl)) (by kernel_rfl) (hK _ _ ⟨hJ,hJb⟩ rfl zvs)⟩
    ·
     exact .inr ⟨rfl,fun K' hK=>wp_move (.tmp 1) rfl (zet ((hev 1 (by decide)).trans rfl)) (hK _ _ ⟨hJ,hJb⟩ rfl zvs)⟩
    ·
     exact .inr ⟨rfl,fun K' hK=>wp_move (.tmp 6) rfl (zet ((hev 6 (by decide)).trans rfl)) (hK _ _ ⟨hJ,hJb⟩ rfl zvs)⟩
    ·
     exact .inr ⟨rfl,fun K' hK=>wp_ixs 27 (.tmp 17) (.tmp 18) ys i 2 30 rfl (zet ((hin 2 17 rfl).trans (congrArg some (show uu 2=ys.v from hd 2 (by decide) (by kernel_rfl))))) (zet ((hin 3 18 rfl).trans (congrArg some (show uu 3=.int .i64 (((i:Nat):Int)) from hd 3 (by decide) (by kernel_rfl))))) (by kernel_rfl) sz30 (fun h=>((hJ.get 3 (f:=Ls m y ys) rfl).sq.nil h).1) ((hJ.get 3 (f:=Ls m y ys) rfl).n ▸ (by omega)) (hK _ _ ⟨hJ,hJb⟩ rfl zvs)⟩
    ·
     exact .inr ⟨rfl,fun K' hK=>wp_ldn 30 (.tmp 19) ys i m y rfl (zet ((hin 4 19 rfl).trans (congrArg some (show uu 4=(ys.at 2 i) from hd 4 (by decide) (by kernel_rfl))))) (hJ.get 3 (f:=Ls m y ys) rfl) (by omega) ag30 sz30 (fun q2 ez_q2 hi_q2=>hK _ _ ⟨hJ,hJb⟩ ⟨q2,rfl,ez_q2,hi_q2⟩ zvs)⟩
    ·
     obtain ⟨q2,e5,ez_q2,hi_q2⟩:=(show (vnum (y i)) (uu 5) X6 ww from hd 5 (by decide) (by kernel_rfl))
     replace hJ:=hJ.more (f:=q2.is) q2.stb hi_q2
     refine .inr ⟨rfl,fun K' hK=>?_⟩
     refine zcz (.func 12) #[.tmp 16,.tmp 20] #[30,30] 12 #[] #[q1.v,q2.v] _ rfl rfl (map2 (zet ((hin 1 16 rfl).trans (congrArg some (show uu 1=q1.v from hd 1 (by decide) (by kernel_rfl))))) (zet ((hin 5 20 rfl).trans (congrArg some e5)))) rfl (fun _ _=>rfl) (zMul hJ.nx (hJ.get 1 (f:=q1.is) rfl) (hJ.get 0 (f:=q2.is) rfl) ez_q1 ez_q2 (bx i (by omega)) (by_ i (by omega)) (by omega) (by omega)) ?_
     rintro zz ww2 ⟨q3,rfl,ez_q3,hi_q3,hB⟩
     exact ⟨_,rfl,hK _ _ ⟨(hJ.only [q1.is,p.is,Ls n x xs,Ls m y ys] (by simp)).later hB,hJb.trans (hB.mono hJb.size)⟩ ⟨q3,rfl,ez_q3,hi_q3⟩ (zvl hVS5 hB)⟩
    ·
     obtain ⟨q3,e6,ez_q3,hi_q3⟩:=(show (vnum ((x i)*(y i))) (uu 6) X6 ww from hd 6 (by decide) (by kernel_rfl))
     replace hJ:=hJ.more (f:=q3.is) q3.stb hi_q3
     refine .inr ⟨rfl,fun K' hK=>?_⟩
     refine zcz (.func 11) #[.tmp 15,.tmp 21] #[30,30] 11 #[] #[p.v,q3.v] _ rfl rfl (map2 (zet ((hin 0 15 rfl).trans (congrArg some (show uu 0=p.v from hd 0 (by decide) (by kernel_rfl))))) (zet ((hin 6 21 rfl).trans (congrArg some e6)))) rfl (fun _ _=>rfl) (zAdd hJ.nx (hJ.get 2 (f:=p.is) rfl) (hJ.get 0 (f:=q3.is) rfl) ez_p ez_q3 (ez_p ▸ hbp) (Sz.mul (bx i (by omega)) (by_ i (by omega))) (by omega) (by omega)) ?_
     rintro zz ww2 ⟨q4,rfl,ez_q4,hi_q4,hB⟩
     exact ⟨_,rfl,hK _ _ ⟨(hJ.only [q1.is,p.is,Ls n x xs,Ls m y ys] (by simp)).later hB,hJb.trans (hB.mono hJb.size)⟩ ⟨q4,rfl,ez_q4,hi_q4⟩ (zvl hVS5 hB)⟩
   clear hM
   intro uu W5 hZ8p hd
   obtain ⟨hZ8,hb5⟩:=hZ8p
   have e_0:uu 0=p.v:=hd 0 (by decide)
   have e_1:uu 1=q1.v:=hd 1 (by decide)
   have e_2:uu 2=ys.v:=hd 2 (by decide)
   have e_3:uu 3=.int .i64 (((i:Nat):Int)):=hd 3 (by decide)
   have e_4:uu 4=(ys.at 2 i):=hd 4 (by decide)
   obtain ⟨q2,e_5,ez_q2,hi_q2⟩:=(show (vnum (y i)) (uu 5) X6 W5 from hd 5 (by decide))
   obtain ⟨q3,e_6,ez_q3,hi_q3⟩:=(show (vnum ((x i)*(y i))) (uu 6) X6 W5 from hd 6 (by decide))
   obtain ⟨q4,e_7,ez_q4,hi_q4⟩:=(show (vnum ((M.sm i (fun k=>x k*y k))+((x i)*(y i)))) (uu 7) X6 W5 from hd 7 (by decide))
   clear hd hVS5
   simp only [layS,Act.put,zzC,zzD,zzE,Nat.zero_add,Nat.reduceAdd,List.drop_succ_cons,List.drop_zero,List.drop_nil,e_0,e_1,e_2,e_3,e_4,e_5,e_6,e_7]
   clear e_0 e_1 e_2 e_3 e_4 e_5 e_6 e_7
   have hZ9:=hZ8.more (f:=q2.is) q2.stb hi_q2
   clear hZ8 hi_q2
   have hZ10:=hZ9.more (f:=q3.is) q3.stb hi_q3
   clear hZ9 hi_q3
   have hZ11:=hZ10.more (f:=q4.is) q4.stb hi_q4
   clear hZ10 hi_q4
   go_wp2_with (refine zss 30 (.tmp 5) (.tmp 22) 1 bk2 0 #[.bool p.b,.slice p.a p.n p.c] 30 2 [.bool q4.b,.slice q4.a q4.n q4.c] #[.bool q4.b,.slice q4.a q4.n q4.c] [(bk3,#[.bool q1.b,.slice q1.a q1.n q1.c],30),(bk2,#[.bool q4.b,.slice q4.a q4.n q4.c],30),(bk1,#[.bool false,.slice none 0 0],30)] rfl rfl rfl rfl sz30 hZ11 rfl rfl (zzF (by kernel_rfl)) (by kernel_rfl) (by kernel_rfl) (by kernel_rfl) (fun W6 hZ12=>?_))
   clear hZ11
   simp only [Stop,Act.put,zzC,zzD,zzE]
   go_wp2_with (refine zso rfl (fun K hK=>wp_addi (.tmp 10) (.const (.int .i64 1)) rfl rfl rfl (C:=((i+1:Nat):Int)) (by omega) (by omega) (by omega) (hK _ _ ?_)))
   simp only [Stop,Act.put,zzC,zzD,zzE]
   have hZ13:=hZ12.only [q4.is,Ls n x xs,Ls m y ys] (by simp)
   clear hZ12
   go_wp2
   go_roundw
   case rel=>exact ⟨i+1,by omega,by go_num,q4,_,by rw [ez_q4]; rfl,hZ13.drop (List.sublist_cons_self _ _)⟩
   case measure=>simp [intOf]; omega
  ·
   obtain rfl:i=n:=by omega
   go_wp2_with (refine zso rfl (fun K hK=>wp_lssi (.tmp 10) (.tmp 9) rfl rfl rfl (r:=false) (decide_eq_false (Int.lt_irrefl _)) (hK _ _ ?_)))
   simp only [Stop,Act.put,zzC,zzD,zzE]
   go_wp2_with (refine zso rfl (fun K hK=>wp_load 30 (.tmp 5) rfl bk2 0 2 #[.bool p.b,.slice p.a p.n p.c] #[.bool p.b,.slice p.a p.n p.c] 30 (hZ.es.at' _ (zzG (i:=0) rfl)) rfl ag30 sz30 (zzF (by kernel_rfl)) (by kernel_rfl) (hK _ _ ?_)))
   simp only [Stop,Act.put,zzC,zzD,zzE]
   go_wp2_with (refine zss 30 (.tmp 4) (.tmp 24) 1 bk1 0 #[.bool false,.slice none 0 0] 30 2 [.bool p.b,.slice p.a p.n p.c] #[.bool p.b,.slice p.a p.n p.c] [(bk2,#[.bool p.b,.slice p.a p.n p.c],30),(bk1,#[.bool p.b,.slice p.a p.n p.c],30)] rfl rfl rfl rfl sz30 hZ rfl rfl (zzF (by kernel_rfl)) (by kernel_rfl) (by kernel_rfl) (by kernel_rfl) (fun W7 hZ14=>?_))
   clear hZ
   simp only [Stop,Act.put,zzC,zzD,zzE]
   go_wp2
   exact bodyPost_ret (v:=p.v) (results_cell 1 Tryz.results33 hZ14.es rfl ag30 sz30 (zzF (by kernel_rfl)) rfl (by kernel_rfl)) rfl ⟨p,rfl,ez_p,hZ14.out 0 (f:=p.is) rfl,hZ14.below⟩
set_option maxRecDepth 100000 in
set_option maxHeartbeats 12800000 in
theorem uMadeN {X0:Nat→Prop} {w:World} (hX:NX X0 w) (n:Nat) (k:FuncId) (cs:Array Value) (g:Nat→Int) (hn:n≤1000) (hf0:AtN X0 w k cs n g):Calls Tryz.prog 42 #[.int .i64 ((n:Nat):Int),.func (.func k) #[] cs] w (PLX X0 n g w):=by
 have hf:Hid (AtN X0 w k cs n g):=hf0
 clear hf0
 have hZ0:=zs_start hX
 go_enter Tryz.func42,Tryz.ntmps42
 go_wp2_with (refine stopz_make ei27 (.tmp 7) (.tmp 7) n rfl rfl rfl rfl (by omega) hZ0 (fun o1 C1 X1 W1 hn_o1 hw_o1 hZ1x=>?_))
 have hZ1:=hZ1x.perm (List.perm_append_comm (l₂:=[]))
 clear hZ1x hZ0
 simp only [Stop,Act.put,zzC,zzD,zzE]
 go_wp2_with (refine zso rfl (fun K hK=>wp_lenq (.tmp 9) 27 30 o1 rfl (by kernel_rfl) rfl hn_o1 (hK _ _ ?_)))
 simp only [Stop,Act.put,zzC,zzD,zzE]
 go_wp2
 go_loopw [11] (fun iv wr=>∃ i:Nat,i≤n∧iv=.int .i64 ((i:Nat):Int)∧∃ (C:Array Value) (X:Nat→Prop),Wr 2 o1 C∧Zs w wr X0 X ([]++owl o1 C 30) [Fl 2 (EN g) i C]) (fun iv _=>n - (intOf iv).toNat)
 case atStart=>exact ⟨0,by omega,rfl,C1,_,hw_o1,hZ1.more (Fl.stb (EN.stb g) _ _) (fl_zero _ _ _ _ _)⟩
 case round =>
  clear hw_o1
  obtain ⟨i,hi,rfl,C,X,hw_o1,hZ⟩:=hrel
  by_cases hlt:i < n
  ·
   go_wp2_with (refine zso rfl (fun K hK=>wp_lssi (.tmp 11) (.tmp 10) rfl rfl rfl (r:=true) (decide_eq_true (by omega)) (hK _ _ ?_)))
   simp only [Stop,Act.put,zzC,zzD,zzE]
   go_wp2_with (refine zso rfl (fun K hK=>zcz (.tmp 16) #[.tmp 17] #[3] k cs #[.int .i64 (((i:Nat):Int))] _ rfl rfl (map1 rfl) rfl hf.out.1 (hf.out.2 i (by omega) _ _ hZ.nx hZ.ext hZ.below) (fun zz W2=>?_)))
   rintro ⟨q2,rfl,ez_q2,hi_q2,hB⟩
   refine ⟨_,rfl,hK _ _ ?_⟩
   have hZ2:=hZ.later hB
   clear hB
   simp only [Stop,Act.put,zzC,zzD,zzE]
   clear hZ
   have hZ3:=hZ2.more (f:=q2.is) q2.stb hi_q2
   clear hZ2 hi_q2
   go_wp2_with (refine zso rfl (fun K hK=>wp_ixs 27 (.tmp 14) (.tmp 15) o1 i 2 30 rfl rfl rfl (by kernel_rfl) sz30 hw_o1.nil (by rw [hn_o1]; omega) (hK _ _ ?_)))
   simp only [Stop,Act.put,zzC,zzD,zzE]
   have hZ4y:=hZ3.perm List.perm_append_comm
   go_wp2_with (refine stopz_put 30 (.tmp 19) (.tmp 18) o1 C i [.bool q2.b,.slice q2.a q2.n q2.c] rfl rfl rfl rfl sz30 rfl (by kernel_rfl) hw_o1 (by rw [hn_o1]; omega) hZ4y (fun C3 W3 hw_o1n hg_C3 ho_C3 hZ4x=>?_))
   clear hZ4y hw_o1
   have hw_o1:=hw_o1n
   clear hw_o1n
   have hZ4:=hZ4x.perm List.perm_append_comm
   clear hZ4x hZ3
   simp only [Stop,Act.put,zzC,zzD,zzE]
   go_wp2_with (refine zso rfl (fun K hK=>wp_addi (.tmp 11) (.const (.int .i64 1)) rfl rfl rfl (C:=((i+1:Nat):Int)) (by omega) (by omega) (by omega) (hK _ _ ?_)))
   simp only [Stop,Act.put,zzC,zzD,zzE]
   have hZ5s:Fl 2 (EN g) (i+1) C3 X W3:=Fl.snoc (C:=C) (hZ4.get 1 (f:=Fl 2 (EN g) i C) rfl) rfl (fun j hj=>ho_C3 j (.inl hj)) hg_C3 ⟨q2,ez_q2,hZ4.get 0 (f:=q2.is) rfl,rfl⟩
   have hZ5:=(hZ4.more (Fl.stb (EN.stb g) _ _) hZ5s).only [Fl 2 (EN g) (i+1) C3] (by simp)
   clear hZ4 hZ5s
   go_wp2
   go_roundw
   case rel=>exact ⟨i+1,by omega,by go_num,C3,_,hw_o1,hZ5⟩
   case measure=>simp [intOf]; omega
  ·
   obtain rfl:i=n:=by omega
   go_wp2_with (refine zso rfl (fun K hK=>wp_lssi (.tmp 11) (.tmp 10) rfl rfl rfl (r:=false) (decide_eq_false (Int.lt_irrefl _)) (hK _ _ ?_)))
   simp only [Stop,Act.put,zzC,zzD,zzE]
   go_wp2
   go_ret
   exact ⟨o1,rfl,⟨hn_o1,hZ.sq hX (EN.stb g) hw_o1 (fun p hp=>List.mem_append_right _ hp) (hn_o1 ▸ hZ.get 0 (f:=Fl 2 (EN g) i C) rfl)⟩,hZ.below⟩
set_option maxRecDepth 100000 in
set_option maxHeartbeats 12800000 in
theorem uMadeL {X0:Nat→Prop} {w:World} (hX:NX X0 w) (n:Nat) (k:FuncId) (cs:Array Value) (c:Nat→Nat) (g:Nat→Nat→Int) (hn:n≤1000) (hf0:AtL X0 w k cs n c g):Calls Tryz.prog 55 #[.int .i64 ((n:Nat):Int),.func (.func k) #[] cs] w (PMX X0 n c g w):=by
 have hf:Hid (AtL X0 w k cs n c g):=hf0
 clear hf0
 have hZ0:=zs_start hX
 go_enter Tryz.func55,Tryz.ntmps55
 go_wp2_with (refine stopz_make ei25 (.tmp 7) (.tmp 7) n rfl rfl rfl rfl (by omega) hZ0 (fun o1 C1 X1 W1 hn_o1 hw_o1 hZ1x=>?_))
 have hZ1:=hZ1x.perm (List.perm_append_comm (l₂:=[]))
 clear hZ1x hZ0
 simp only [Stop,Act.put,zzC,zzD,zzE]
 go_wp2_with (refine zso rfl (fun K hK=>wp_lenq (.tmp 9) 25 27 o1 rfl (by kernel_rfl) rfl hn_o1 (hK _ _ ?_)))
 simp only [Stop,Act.put,zzC,zzD,zzE]
 go_wp2
 go_loopw [11] (fun iv wr=>∃ i:Nat,i≤n∧iv=.int .i64 ((i:Nat):Int)∧∃ (C:Array Value) (X:Nat→Prop),Wr 1 o1 C∧Zs w wr X0 X ([]++owl o1 C 27) [Fl 1 (ER c g) i C]) (fun iv _=>n - (intOf iv).toNat)
 case atStart=>exact ⟨0,by omega,rfl,C1,_,hw_o1,hZ1.more (Fl.stb (ER.stb c g) _ _) (fl_zero _ _ _ _ _)⟩
 case round =>
  clear hw_o1
  obtain ⟨i,hi,rfl,C,X,hw_o1,hZ⟩:=hrel
  by_cases hlt:i < n
  ·
   go_wp2_with (refine zso rfl (fun K hK=>wp_lssi (.tmp 11) (.tmp 10) rfl rfl rfl (r:=true) (decide_eq_true (by omega)) (hK _ _ ?_)))
   simp only [Stop,Act.put,zzC,zzD,zzE]
   go_wp2_with (refine zso rfl (fun K hK=>zcz (.tmp 16) #[.tmp 17] #[3] k cs #[.int .i64 (((i:Nat):Int))] _ rfl rfl (map1 rfl) rfl hf.out.1 (hf.out.2 i (by omega) _ _ hZ.nx hZ.ext hZ.below) (fun zz W2=>?_)))
   rintro ⟨s2,rfl,hi_s2,hB⟩
   refine ⟨_,rfl,hK _ _ ?_⟩
   have hZ2:=hZ.later hB
   clear hB
   simp only [Stop,Act.put,zzC,zzD,zzE]
   clear hZ
   have hZ3:=hZ2.more (f:=Ls (c i) (g i) s2) (Ls.stb _ _ _) hi_s2
   clear hZ2 hi_s2
   go_wp2_with (refine zso rfl (fun K hK=>wp_ixs 25 (.tmp 14) (.tmp 15) o1 i 1 27 rfl rfl rfl (by kernel_rfl) sz27 hw_o1.nil (by rw [hn_o1]; omega) (hK _ _ ?_)))
   simp only [Stop,Act.put,zzC,zzD,zzE]
   have hZ4y:=hZ3.perm List.perm_append_comm
   go_wp2_with (refine stopz_put 27 (.tmp 19) (.tmp 18) o1 C i [s2.v] rfl rfl rfl rfl sz27 rfl (by kernel_rfl) hw_o1 (by rw [hn_o1]; omega) hZ4y (fun C3 W3 hw_o1n hg_C3 ho_C3 hZ4x=>?_))
   clear hZ4y hw_o1
   have hw_o1:=hw_o1n
   clear hw_o1n
   have hZ4:=hZ4x.perm List.perm_append_comm
   clear hZ4x hZ3
   simp only [Stop,Act.put,zzC,zzD,zzE]
   go_wp2_with (refine zso rfl (fun K hK=>wp_addi (.tmp 11) (.const (.int .i64 1)) rfl rfl rfl (C:=((i+1:Nat):Int)) (by omega) (by omega) (by omega) (hK _ _ ?_)))
   simp only [Stop,Act.put,zzC,zzD,zzE]
   have hZ5s:Fl 1 (ER c g) (i+1) C3 X W3:=Fl.snoc (C:=C) (hZ4.get 1 (f:=Fl 1 (ER c g) i C) rfl) rfl (fun j hj=>ho_C3 j (.inl hj)) hg_C3 ⟨s2,hZ4.get 0 (f:=Ls (c i) (g i) s2) rfl,rfl⟩
   have hZ5:=(hZ4.more (Fl.stb (ER.stb c g) _ _) hZ5s).only [Fl 1 (ER c g) (i+1) C3] (by simp)
   clear hZ4 hZ5s
   go_wp2
   go_roundw
   case rel=>exact ⟨i+1,by omega,by go_num,C3,_,hw_o1,hZ5⟩
   case measure=>simp [intOf]; omega
  ·
   obtain rfl:i=n:=by omega
   go_wp2_with (refine zso rfl (fun K hK=>wp_lssi (.tmp 11) (.tmp 10) rfl rfl rfl (r:=false) (decide_eq_false (Int.lt_irrefl _)) (hK _ _ ?_)))
   simp only [Stop,Act.put,zzC,zzD,zzE]
   go_wp2
   go_ret
   exact ⟨o1,rfl,⟨hn_o1,hZ.sq hX (ER.stb c g) hw_o1 (fun p hp=>List.mem_append_right _ hp) (hn_o1 ▸ hZ.get 0 (f:=Fl 1 (ER c g) i C) rfl)⟩,hZ.below⟩
/-- A list of one's own, where there was something to put behind it; else the list. -/
def PLong (X:Nat→Prop) (n m:Nat) (x y:Nat→Int) (w:World) (e:Ending) (w':World):Prop:=(0 < m∧POwn X 2 (EN (jn n x y)) (n+m) 30 w e w')∨(m=0∧∃ s:Sl,e=.returned s.v∧Ls n x s X w'∧Below w.heap.size w w')
set_option maxRecDepth 100000 in
set_option maxHeartbeats 12800000 in
theorem uLong {X0:Nat→Prop} {w:World} (hX:NX X0 w) (xs ys:Sl) {n m:Nat} {x y:Nat→Int} (hx:Ls n x xs X0 w) (hy:Ls m y ys X0 w) (hnm:n+m≤1000):Calls Tryz.prog 51 #[xs.v,ys.v] w (PLong X0 n m x y w):=by
 have hZ0:=zs_start hX
 have hZ1:=hZ0.more (f:=Ls m y ys) (Ls.stb _ _ _) hy
 clear hZ0
 have hZ2:=hZ1.more (f:=Ls n x xs) (Ls.stb _ _ _) hx
 clear hZ1
 go_enter Tryz.func51,Tryz.ntmps51
 go_wp2_with (refine zso rfl (fun K hK=>wp_lenq (.tmp 6) 27 30 xs rfl (by kernel_rfl) rfl (hZ2.get 0 (f:=Ls n x xs) rfl).n (hK _ _ ?_)))
 simp only [Stop,Act.put,zzC,zzD,zzE]
 go_wp2_with (refine zso rfl (fun K hK=>wp_lenq (.tmp 8) 27 30 xs rfl (by kernel_rfl) rfl (hZ2.get 0 (f:=Ls n x xs) rfl).n (hK _ _ ?_)))
 simp only [Stop,Act.put,zzC,zzD,zzE]
 go_wp2_with (refine zso rfl (fun K hK=>wp_sl3n 27 30 (.tmp 5) (.tmp 7) (.tmp 9) xs n rfl rfl rfl rfl (by kernel_rfl) sz30 (hZ2.get 0 (f:=Ls n x xs) rfl) (by omega) (fun s1 hc_s1 hi_s1=>hK _ _ ?_)))
 simp only [Stop,Act.put,zzC,zzD,zzE]
 have hZ3:=hZ2.more (f:=Ls n x s1) (Ls.stb _ _ _) hi_s1
 clear hZ2 hi_s1
 by_cases h0:0 < m
 ·
  go_wp2_with (refine zso rfl (fun K hK=>wp_longer ei27 (.tmp 10) (.tmp 11) rfl (EN.stb x) (EN.stb y) (s1:=s1) (s2:=ys) (Sl.full (hZ3.get 0 (f:=Ls n x s1) rfl).n hc_s1) rfl (hZ3.get 0 (f:=Ls n x s1) rfl).sq (hZ3.get 0 (f:=Ls n x s1) rfl).n (hZ3.get 2 (f:=Ls m y ys) rfl).sq (hZ3.get 2 (f:=Ls m y ys) rfl).n h0 hnm hZ3 (fun so Co XA W1 hn_so hw_so hZ4=>hK _ _ ?_)))
  simp only [Stop,Act.put,zzC,zzD,zzE]
  go_wp2
  go_ret
  have hf:=fl_jn (hZ4.get 0 (f:=Fl 2 (E2 n (EN x) (EN y)) (n+m) Co) rfl)
  have hz:Zs w W1 X0 XA (owl so Co 30) [Fl 2 (EN (jn n x y)) (n+m) Co]:=by
   have h:=(hZ4.more (Fl.stb (EN.stb _) _ _) hf).only [Fl 2 (EN (jn n x y)) (n+m) Co] (by simp)
   rw [List.append_nil] at h
   exact h
  exact .inl ⟨h0,so,Co,XA,rfl,hn_so,hw_so,hz⟩
 ·
  have h0m:m=0:=by omega
  go_wp2_with (refine zso rfl (fun K hK=>wp_longer0 ei27 (.tmp 10) (.tmp 11) rfl (s1:=s1) (s2:=ys) (Sl.full (hZ3.get 0 (f:=Ls n x s1) rfl).n hc_s1) rfl ((hZ3.get 2 (f:=Ls m y ys) rfl).n.trans h0m) (hK _ _ ?_)))
  simp only [Stop,Act.put,zzC,zzD,zzE]
  go_wp2
  go_ret
  exact .inr ⟨h0m,s1,by rw [Sl.full ((hZ3.get 0 (f:=Ls n x s1) rfl).n) hc_s1]; rfl,hZ3.out 0 (f:=Ls n x s1) rfl,hZ3.below⟩
theorem plong_own {X:Nat→Prop} {n m:Nat} {x y:Nat→Int} {w:World} (h0:0 < m) (e:Ending) (w':World) (h:PLong X n m x y w e w'):POwn X 2 (EN (jn n x y)) (n+m) 30 w e w':=h.elim (fun h=>h.2) fun h=>absurd h.1 (by omega)
theorem plong_ls {X:Nat→Prop} {n m:Nat} {x y:Nat→Int} {w:World} (hx:NX X w) (e:Ending) (w':World) (h:PLong X n m x y w e w'):PLX X (n+m) (jn n x y) w e w':=by
 rcases h with ⟨_,h⟩ | ⟨h0,s,h1,h2,h3⟩
 ·
  exact pown_ls hx e w' h
 ·
  subst h0
  exact ⟨s,h1,h2.congr fun i hi=>(jn_a hi).symm,h3⟩
set_option maxRecDepth 100000 in
set_option maxHeartbeats 12800000 in
theorem uLongV {X0:Nat→Prop} {w:World} (hX:NX X0 w) (xs ys:Sl) {n:Nat} {g:Nat→Value} {v:Value} (hx:Vs n g xs X0 w) (hy:Vs 1 (fun _=>v) ys X0 w) (hn1:n+1≤1000):Calls Tryz.prog 66 #[xs.v,ys.v] w (PVs X0 n g v 27 w):=by
 have hZ0:=zs_start hX
 have hZ1:=hZ0.more (f:=Vs 1 (fun _=>v) ys) (Vs.stb _ _ _) hy
 clear hZ0
 have hZ2:=hZ1.more (f:=Vs n g xs) (Vs.stb _ _ _) hx
 clear hZ1
 go_enter Tryz.func66,Tryz.ntmps66
 go_wp2_with (refine zso rfl (fun K hK=>wp_lenq (.tmp 6) 25 27 xs rfl (by kernel_rfl) rfl (hZ2.get 0 (f:=Vs n g xs) rfl).n (hK _ _ ?_)))
 simp only [Stop,Act.put,zzC,zzD,zzE]
 go_wp2_with (refine zso rfl (fun K hK=>wp_lenq (.tmp 8) 25 27 xs rfl (by kernel_rfl) rfl (hZ2.get 0 (f:=Vs n g xs) rfl).n (hK _ _ ?_)))
 simp only [Stop,Act.put,zzC,zzD,zzE]
 go_wp2_with (refine zso rfl (fun K hK=>wp_sl3v 25 27 (.tmp 5) (.tmp 7) (.tmp 9) xs n rfl rfl rfl rfl (by kernel_rfl) sz27 (hZ2.get 0 (f:=Vs n g xs) rfl) (by omega) (fun s1 hc_s1 hi_s1=>hK _ _ ?_)))
 simp only [Stop,Act.put,zzC,zzD,zzE]
 have hZ3:=hZ2.more (f:=Vs n g s1) (Vs.stb _ _ _) hi_s1
 clear hZ2 hi_s1
 go_wp2_with (refine zso rfl (fun K hK=>wp_longer ei25 (.tmp 10) (.tmp 11) rfl (EV.stb g) (EV.stb (fun _=>v)) (s1:=s1) (s2:=ys) (Sl.full (hZ3.get 0 (f:=Vs n g s1) rfl).n hc_s1) rfl (hZ3.get 0 (f:=Vs n g s1) rfl).sq (hZ3.get 0 (f:=Vs n g s1) rfl).n (hZ3.get 2 (f:=Vs 1 (fun _=>v) ys) rfl).sq (hZ3.get 2 (f:=Vs 1 (fun _=>v) ys) rfl).n (by omega) hn1 hZ3 (fun so Co XA W1 hn_so hw_so hZ4=>hK _ _ ?_)))
 simp only [Stop,Act.put,zzC,zzD,zzE]
 go_wp2
 go_ret
 have hf:=fl_vs (hZ4.get 0 (f:=Fl 1 (E2 n (EV g) (EV (fun _=>v))) (n+1) Co) rfl)
 have hz:Zs w W1 X0 XA (owl so Co 27) []:=by
  have h:=hZ4.only [] (by simp)
  rw [List.append_nil] at h
  exact h
 exact ⟨so,Co,XA,rfl,hn_so,hw_so,hf.1,hf.2,hz⟩
/-- A function that makes a row of one's own of each place below n. -/
def AtO (X:Nat→Prop) (w:World) (k:FuncId) (cs:Array Value) (n:Nat) (c:Nat→Nat) (g:Nat→Nat→Int):Prop:=(∀ (args:Array Value) (W:World),(callFunc k args).run Tryz.prog W=.ok (.enter k args) W)∧∀ i,i < n→∀ (X':Nat→Prop) (W:World),NX X' W→Ext X w X' W→Below w.heap.size w W→Calls Tryz.prog k (#[.int .i64 ((i:Nat):Int)]++cs) W (POwn X' 2 (EN (g i)) (c i) 30 W)
theorem cells_put1 {C C':Array Value} {r:Nat→Sl} {i:Nat} {s:Sl} (h:∀ j,j < i→C[j]?=some (r j).v) (ho:∀ j,j < i*1∨i*1+1≤j→C'[j]?=C[j]?) (hg:∀ j,j < 1→C'[i*1+j]?=[s.v][j]?):∀ j,j < i+1→C'[j]?=some (upf r i s j).v:=fun j hj=>by
 by_cases e:j=i
 ·
  subst e
  have:=hg 0 (by omega)
  rw [Nat.mul_one,Nat.add_zero] at this
  rw [this,upf_self]
  rfl
 ·
  rw [upf_ne _ _ e,ho j (by omega)]
  exact h j (by omega)
set_option maxRecDepth 100000 in
set_option maxHeartbeats 12800000 in
theorem uMadeT {X0:Nat→Prop} {w:World} (hX:NX X0 w) (n:Nat) (k:FuncId) (cs:Array Value) (c:Nat→Nat) (g:Nat→Nat→Int) (hn:n≤1000) (hf0:AtO X0 w k cs n c g):Calls Tryz.prog 55 #[.int .i64 ((n:Nat):Int),.func (.func k) #[] cs] w (PTab X0 2 (fun j=>EN (g j)) n c 27 30 w):=by
 have hf:Hid (AtO X0 w k cs n c g):=hf0
 clear hf0
 have hZ0:=zs_start hX
 go_enter Tryz.func55,Tryz.ntmps55
 go_wp2_with (refine stopz_make ei25 (.tmp 7) (.tmp 7) n rfl rfl rfl rfl (by omega) hZ0 (fun o1 C1 X1 W1 hn_o1 hw_o1 hZ1x=>?_))
 have hZ1:=hZ1x.perm (List.perm_append_comm (l₂:=[]))
 clear hZ1x hZ0
 simp only [Stop,Act.put,zzC,zzD,zzE]
 go_wp2_with (refine zso rfl (fun K hK=>wp_lenq (.tmp 9) 25 27 o1 rfl (by kernel_rfl) rfl hn_o1 (hK _ _ ?_)))
 simp only [Stop,Act.put,zzC,zzD,zzE]
 go_wp2
 go_loopw [11] (fun iv wr=>∃ i:Nat,i≤n∧iv=.int .i64 ((i:Nat):Int)∧∃ (C:Array Value) (r:Nat→Sl) (D:Nat→Array Value) (X:Nat→Prop),Wr 1 o1 C∧(∀ j,j < i→C[j]?=some (r j).v)∧Zs w wr X0 X ([]++(owl o1 C 27++rwl r D 30 i)) [Rw 2 (fun j=>EN (g j)) i c r D]) (fun iv _=>n - (intOf iv).toNat)
 case atStart=>exact ⟨0,by omega,rfl,C1,(fun _=>slz),(fun _=>#[]),_,hw_o1,fun j hj=>absurd hj (Nat.not_lt_zero j),by simpa [rwl] using (hZ1.more (f:=Rw 2 (fun j=>EN (g j)) 0 c (fun _=>slz) (fun _=>#[])) (Rw.stb (fun j=>EN.stb (g j)) _ _ _ _) (rw_zero _ _ _ _ _ _ _))⟩
 case round =>
  clear hw_o1
  obtain ⟨i,hi,rfl,C,r,D,X,hw_o1,hC,hZ⟩:=hrel
  by_cases hlt:i < n
  ·
   go_wp2_with (refine zso rfl (fun K hK=>wp_lssi (.tmp 11) (.tmp 10) rfl rfl rfl (r:=true) (decide_eq_true (by omega)) (hK _ _ ?_)))
   simp only [Stop,Act.put,zzC,zzD,zzE]
   go_wp2_with (refine zso rfl (fun K hK=>zcz (.tmp 16) #[.tmp 17] #[3] k cs #[.int .i64 ((i:Nat):Int)] _ rfl rfl (map1 rfl) rfl hf.out.1 (hf.out.2 i (by omega) _ _ hZ.nx hZ.ext hZ.below) (fun zz W2=>?_)))
   rintro ⟨so,Co,XC,rfl,hn_so,hw_so,hzc⟩
   refine ⟨_,rfl,hK _ _ ?_⟩
   simp only [Stop,Act.put,zzC,zzD,zzE]
   have hZ2:=hZ.andThen hzc
   clear hZ hzc
   have hZ3:Zs w W2 X0 XC ([]++(owl so Co 30++(owl o1 C 27++rwl r D 30 i))) [Fl 2 (EN (g i)) (c i) Co,Rw 2 (fun j=>EN (g j)) i c r D]:=hZ2.perm ((perm_mid (owl so Co 30) [] (owl o1 C 27++rwl r D 30 i)))
   clear hZ2
   go_wp2_with (refine zso rfl (fun K hK=>wp_ixs 25 (.tmp 14) (.tmp 15) o1 i 1 27 rfl rfl rfl (by kernel_rfl) sz27 hw_o1.nil (by rw [hn_o1]; omega) (hK _ _ ?_)))
   simp only [Stop,Act.put,zzC,zzD,zzE]
   have hZ4y:=hZ3.perm ((List.Perm.append_left _ (perm_mid _ _ _)).trans (perm_mid _ _ _))
   go_wp2_with (refine stopz_put 27 (.tmp 19) (.tmp 18) o1 C i [so.v] rfl rfl rfl rfl sz27 rfl (by kernel_rfl) hw_o1 (by rw [hn_o1]; omega) hZ4y (fun C2 W3 hw_o1n hg_C2 ho_C2 hZ4x=>?_))
   clear hZ4y hw_o1
   have hw_o1:=hw_o1n
   clear hw_o1n
   have hZ4:=hZ4x.perm (List.Perm.symm ((List.Perm.append_left _ (perm_mid _ _ _)).trans (perm_mid _ _ _)))
   clear hZ4x hZ3
   simp only [Stop,Act.put,zzC,zzD,zzE]
   have hZ5c:=cells_put1 (s:=so) hC ho_C2 hg_C2
   have hZ5r:=Rw.snoc (hZ4.get 1 (f:=Rw 2 (fun j=>EN (g j)) i c r D) rfl) hn_so rfl hw_so (hZ4.get 0 (f:=Fl 2 (EN (g i)) (c i) Co) rfl)
   have hZ5z:Zs w W3 X0 XC ([]++(owl o1 C2 27++rwl (upf r i so) (upf D i Co) 30 (i+1))) [Rw 2 (fun j=>EN (g j)) (i+1) c (upf r i so) (upf D i Co)]:=by
    rw [rwl_snoc]
    have h:=(hZ4.more (f:=Rw 2 (fun j=>EN (g j)) (i+1) c (upf r i so) (upf D i Co)) (Rw.stb (fun j=>EN.stb (g j)) _ _ _ _) hZ5r).only [Rw 2 (fun j=>EN (g j)) (i+1) c (upf r i so) (upf D i Co)] (by simp)
    exact h.perm (by
     classical
     refine List.perm_iff_count.2 fun x=>?_
     simp only [List.count_append,List.count_nil]
     omega)
   clear hZ4
   go_wp2_with (refine zso rfl (fun K hK=>wp_addi (.tmp 11) (.const (.int .i64 1)) rfl rfl rfl (C:=((i+1:Nat):Int)) (by omega) (by omega) (by omega) (hK _ _ ?_)))
   simp only [Stop,Act.put,zzC,zzD,zzE]
   go_wp2
   go_roundw
   case rel=>exact ⟨i+1,by omega,by go_num,C2,upf r i so,upf D i Co,_,hw_o1,hZ5c,hZ5z⟩
   case measure=>simp [intOf]; omega
  ·
   obtain rfl:i=n:=by omega
   go_wp2_with (refine zso rfl (fun K hK=>wp_lssi (.tmp 11) (.tmp 10) rfl rfl rfl (r:=false) (decide_eq_false (Int.lt_irrefl _)) (hK _ _ ?_)))
   simp only [Stop,Act.put,zzC,zzD,zzE]
   go_wp2
   go_ret
   exact ⟨o1,C,r,D,_,rfl,hn_o1,hw_o1,hC,hZ⟩
theorem tbl_row {n:Nat} {P:Nat→Nat→Int} {q:Nat→Int} {C:Int} {i:Nat} (h:i < n) (j:Nat):jn n (P i) (fun _=>q i) j=tbl n P q C i j:=by
 unfold tbl jn
 rw [if_pos h]
theorem tbl_last (n:Nat) (P:Nat→Nat→Int) (q:Nat→Int) (C:Int) (j:Nat):jn n q (fun _=>C) j=tbl n P q C n j:=by
 unfold tbl jn
 rw [if_neg (Nat.lt_irrefl n)]
theorem Fl.ncongr {n:Nat} {f g:Nat→Int} {C:Array Value} {X:Nat→Prop} {W:World} (h:Fl 2 (EN f) n C X W) (e:∀ i,i < n→f i=g i):Fl 2 (EN g) n C X W:=h.congr fun i _ hi ⟨p,h1,h2⟩=>⟨p,h1.trans (e i hi),h2⟩
set_option maxRecDepth 100000 in
set_option maxHeartbeats 12800000 in
theorem uTable1 {X0:Nat→Prop} {w:World} (hX:NX X0 w) (p s:Sl) (c:NL) {n:Nat} {P:Nat→Nat→Int} {q:Nat→Int} {C:Int} (bF i:Nat) (hi:i < n) (hn:n≤100) (cF:Cf bF #[p.v,s.v,.bool c.b,.slice c.a c.n c.c] 32 X0 w) (hp:Mt n (fun _=>n) P p X0 w) (hq:Ls n q s X0 w):Calls Tryz.prog 65 #[.int .i64 ((i:Nat):Int),.pointer (some ⟨bF,0,none⟩)] w (POwn X0 2 (EN (tbl n P q C i)) (n+1) 30 w):=by
 have hZ0:=zs_start hX
 have hZ1:=hZ0.more (f:=Cf bF #[p.v,s.v,.bool c.b,.slice c.a c.n c.c] 32) (Cf.stb _ _ _) cF
 clear hZ0
 have hZ2:=hZ1.more (f:=Ls n q s) (Ls.stb _ _ _) hq
 clear hZ1
 have hZ3:=hZ2.more (f:=Mt n (fun _=>n) P p) (Mt.stb _ _ _ _) hp
 clear hZ2
 go_enter Tryz.func65,Tryz.ntmps65
 go_wp2
 obtain ⟨XR1,hZ4⟩:∃ Xr,Zs w w X0 Xr [] [Mt n (fun _=>n) P p,Ls n q s,Cf bF #[p.v,s.v,.bool c.b,.slice c.a c.n c.c] 32]:=⟨_,hZ3⟩
 clear hZ3
 refine zrp 12 [some 4,some 5,some 6,some 7,some 8,some 9,some 10,some 11,some 12,some 13,some 14,some 15] [veq (.pointer (some ⟨bF,0,none⟩)),veq (p.v),veq (.int .i64 (((i:Nat):Int))),veq ((p.at 1 i)),vls n (P i),veq (.pointer (some ⟨bF,1,none⟩)),veq (s.v),veq (.int .i64 (((i:Nat):Int))),veq ((s.at 2 i)),vnum (q i),vls 1 (fun _=>q i),vown w X0 [] [Mt n (fun _=>n) P p,Ls n q s,Cf bF #[p.v,s.v,.bool c.b,.slice c.a c.n c.c] 32] (jn n (P i) (fun _=>q i)) (n+1) 30] (by kernel_rfl) (by kernel_rfl) (by rfl) (by decide) (by rfl) hZ4 ?_ ?_
 ·
  intro iq hlq hiq LL uu ww aa hLi hLc hJ hd hall hev hin hold
  clear hZ4
  obtain rfl | rfl | rfl | rfl | rfl | rfl | rfl | rfl | rfl | rfl | rfl | rfl:iq=0∨iq=1∨iq=2∨iq=3∨iq=4∨iq=5∨iq=6∨iq=7∨iq=8∨iq=9∨iq=10∨iq=11:=by omega
  ·
   exact oz rfl (fun _ hK=>wp_fda (v:=.pointer (some ⟨bF,0,none⟩)) 32 (.tmp 1) 0 rfl (zet ((hev 1 (by decide)).trans rfl)) (fun _=>by kernel_rfl) (hK _ _ hJ rfl vsm))
  ·
   exact oz rfl (fun _ hK=>wp_load1 (v:=p.v) 26 (.tmp 4) rfl bF 0 #[p.v,s.v,.bool c.b,.slice c.a c.n c.c] 32 (hJ.get 2 (f:=Cf bF #[p.v,s.v,.bool c.b,.slice c.a c.n c.c] 32) rfl).1 (zj (hin 0 4 rfl) (show uu 0=.pointer (some ⟨bF,0,none⟩) from (hd 0 (by kernel_rfl)))) ag26 (by kernel_rfl) (hK _ _ hJ rfl vsm))
  ·
   exact oz rfl (fun _ hK=>wp_move (.tmp 0) rfl (zet ((hev 0 (by decide)).trans rfl)) (hK _ _ hJ rfl vsm))
  ·
   exact oz rfl (fun _ hK=>wp_ixs 26 (.tmp 5) (.tmp 6) p i 1 27 rfl (zj (hin 1 5 rfl) (show uu 1=p.v from (hd 1 (by kernel_rfl)))) (zj (hin 2 6 rfl) (show uu 2=.int .i64 (((i:Nat):Int)) from (hd 2 (by kernel_rfl)))) (by kernel_rfl) sz27 (fun h=>((hJ.get 0 (f:=Mt n (fun _=>n) P p) rfl).sq.nil h).1) ((hJ.get 0 (f:=Mt n (fun _=>n) P p) rfl).n ▸ (by omega)) (hK _ _ hJ rfl vsm))
  ·
   exact oz rfl (fun _ hK=>wp_ldm 27 (.tmp 7) p i n (fun _=>n) P rfl (zj (hin 3 7 rfl) (show uu 3=(p.at 1 i) from (hd 3 (by kernel_rfl)))) (hJ.get 0 (f:=Mt n (fun _=>n) P p) rfl) (by omega) ag27 (fun s1 hi_s1=>hK _ _ hJ ⟨s1,rfl,hi_s1⟩ vsm))
  ·
   exact oz rfl (fun _ hK=>wp_fda (v:=.pointer (some ⟨bF,1,none⟩)) 32 (.tmp 1) 1 rfl (zet ((hev 1 (by decide)).trans rfl)) (fun _=>by kernel_rfl) (hK _ _ hJ rfl vsm))
  ·
   exact oz rfl (fun _ hK=>wp_load1 (v:=s.v) 27 (.tmp 9) rfl bF 1 #[p.v,s.v,.bool c.b,.slice c.a c.n c.c] 32 (hJ.get 2 (f:=Cf bF #[p.v,s.v,.bool c.b,.slice c.a c.n c.c] 32) rfl).1 (zj (hin 5 9 rfl) (show uu 5=.pointer (some ⟨bF,1,none⟩) from (hd 5 (by kernel_rfl)))) ag27 (by kernel_rfl) (hK _ _ hJ rfl vsm))
  ·
   exact oz rfl (fun _ hK=>wp_move (.tmp 0) rfl (zet ((hev 0 (by decide)).trans rfl)) (hK _ _ hJ rfl vsm))
  ·
   exact oz rfl (fun _ hK=>wp_ixs 27 (.tmp 10) (.tmp 11) s i 2 30 rfl (zj (hin 6 10 rfl) (show uu 6=s.v from (hd 6 (by kernel_rfl)))) (zj (hin 7 11 rfl) (show uu 7=.int .i64 (((i:Nat):Int)) from (hd 7 (by kernel_rfl)))) (by kernel_rfl) sz30 (fun h=>((hJ.get 1 (f:=Ls n q s) rfl).sq.nil h).1) ((hJ.get 1 (f:=Ls n q s) rfl).n ▸ (by omega)) (hK _ _ hJ rfl vsm))
  ·
   exact oz rfl (fun _ hK=>wp_ldn 30 (.tmp 12) s i n q rfl (zj (hin 8 12 rfl) (show uu 8=(s.at 2 i) from (hd 8 (by kernel_rfl)))) (hJ.get 1 (f:=Ls n q s) rfl) (by omega) ag30 sz30 (fun q2 ez_q2 hi_q2=>hK _ _ hJ ⟨q2,rfl,ez_q2,hi_q2⟩ vsm))
  ·
   obtain ⟨q2,e9,ez_q2,hi_q2⟩:=(show (vnum (q i)) (uu 9) XR1 ww from (hd 9 (by kernel_rfl)))
   replace hJ:=hJ.more (f:=q2.is) q2.stb hi_q2
   exact oz rfl (fun _ hK=>wp_bsn ei27 (.tmp 13) q2 rfl (zj (hin 9 13 rfl) e9) hJ hi_q2 (fun s3 ww2 hB hzb=>hK _ _ (hzb.only [Mt n (fun _=>n) P p,Ls n q s,Cf bF #[p.v,s.v,.bool c.b,.slice c.a c.n c.c] 32] (by simp)) ⟨s3,rfl,(hzb.get 0 (f:=Ls 1 (fun _=>q2.z) s3) rfl).congr (fun _ _=>ez_q2)⟩ (vlat hB)))
  ·
   obtain ⟨s1,e4,hi_s1⟩:=(show (vls n (P i)) (uu 4) XR1 ww from (hd 4 (by kernel_rfl)))
   obtain ⟨s3,e10,hi_s3⟩:=(show (vls 1 (fun _=>q i)) (uu 10) XR1 ww from (hd 10 (by kernel_rfl)))
   replace hJ:=hJ.more (f:=Ls n (P i) s1) (Ls.stb _ _ _) hi_s1
   replace hJ:=hJ.more (f:=Ls 1 (fun _=>q i) s3) (Ls.stb _ _ _) hi_s3
   refine oz rfl (fun _ hK=>zcz (.func 51) #[.tmp 8,.tmp 14] #[27,27] 51 #[] #[s1.v,s3.v] _ rfl rfl (map2 (zj (hin 4 8 rfl) e4) (zj (hin 10 14 rfl) e10)) rfl (fun _ _=>rfl) ((uLong hJ.nx s1 s3 (hJ.get 1 (f:=Ls n (P i) s1) rfl) (hJ.get 0 (f:=Ls 1 (fun _=>q i) s3) rfl) (by omega)).mono (plong_own (by omega))) ?_)
   rintro zz ww2 ⟨o4,C4,XC4,rfl,hn_o4,hw_o4,hz_o4⟩
   exact ⟨_,rfl,hK _ _ ((hJ.only [Mt n (fun _=>n) P p,Ls n q s,Cf bF #[p.v,s.v,.bool c.b,.slice c.a c.n c.c] 32] (by simp)).later hz_o4.below) ⟨o4,C4,_,rfl,hn_o4,hw_o4,(hJ.only [Mt n (fun _=>n) P p,Ls n q s,Cf bF #[p.v,s.v,.bool c.b,.slice c.a c.n c.c] 32] (by simp)).andThen hz_o4⟩ (vlat hz_o4.below)⟩
 clear hZ4
 intro uu W1 hZ5 hd
 have e_0:uu 0=.pointer (some ⟨bF,0,none⟩):=hd 0 (by decide)
 have e_1:uu 1=p.v:=hd 1 (by decide)
 have e_2:uu 2=.int .i64 (((i:Nat):Int)):=hd 2 (by decide)
 have e_3:uu 3=(p.at 1 i):=hd 3 (by decide)
 obtain ⟨s1,e_4,hi_s1⟩:=(show (vls n (P i)) (uu 4) XR1 W1 from hd 4 (by decide))
 have e_5:uu 5=.pointer (some ⟨bF,1,none⟩):=hd 5 (by decide)
 have e_6:uu 6=s.v:=hd 6 (by decide)
 have e_7:uu 7=.int .i64 (((i:Nat):Int)):=hd 7 (by decide)
 have e_8:uu 8=(s.at 2 i):=hd 8 (by decide)
 obtain ⟨q2,e_9,ez_q2,hi_q2⟩:=(show (vnum (q i)) (uu 9) XR1 W1 from hd 9 (by decide))
 obtain ⟨s3,e_10,hi_s3⟩:=(show (vls 1 (fun _=>q i)) (uu 10) XR1 W1 from hd 10 (by decide))
 obtain ⟨o4,C4,hz_o4X,e_11,hn_o4,hw_o4,hz_o4⟩:=(show (vown w X0 [] [Mt n (fun _=>n) P p,Ls n q s,Cf bF #[p.v,s.v,.bool c.b,.slice c.a c.n c.c] 32] (jn n (P i) (fun _=>q i)) (n+1) 30) (uu 11) XR1 W1 from hd 11 (by decide))
 clear hd
 simp only [layS,Act.put,zzC,zzD,zzE,Nat.zero_add,Nat.reduceAdd,List.drop_succ_cons,List.drop_zero,List.drop_nil,e_0,e_1,e_2,e_3,e_4,e_5,e_6,e_7,e_8,e_9,e_10,e_11]
 clear e_0 e_1 e_2 e_3 e_4 e_5 e_6 e_7 e_8 e_9 e_10 e_11 hZ5
 have hZ6:Zs w W1 X0 hz_o4X ([]++owl o4 C4 30) [Fl 2 (EN (jn n (P i) (fun _=>q i))) (n+1) C4,Mt n (fun _=>n) P p,Ls n q s,Cf bF #[p.v,s.v,.bool c.b,.slice c.a c.n c.c] 32]:=hz_o4.perm List.perm_append_comm
 clear hz_o4
 go_wp2
 go_ret
 have hZ7r:=Fl.ncongr (g:=tbl n P q C i) (hZ6.get 0 (f:=Fl 2 (EN (jn n (P i) (fun _=>q i))) (n+1) C4) rfl) (fun j _=>tbl_row hi j)
 have hZ7:=(hZ6.more (f:=Fl 2 (EN (tbl n P q C i)) (n+1) C4) (Fl.stb (EN.stb _) _ _) hZ7r).only [Fl 2 (EN (tbl n P q C i)) (n+1) C4] (by simp)
 exact ⟨o4,C4,_,rfl,hn_o4,hw_o4,hZ7⟩
theorem tab_cells {C:Array Value} {r:Nat→Sl} {n:Nat} {s:Sl} (h1:∀ i,i < n→C[i]?=some (r i).v) (h2:C[n]?=some s.v):∀ i,i < n+1→C[i]?=some (upf r n s i).v:=fun i hi=>by
 by_cases e:i=n
 ·
  subst e; rw [h2,upf_self]
 ·
  rw [upf_ne _ _ e]; exact h1 i (by omega)
set_option maxRecDepth 100000 in
set_option maxHeartbeats 12800000 in
theorem uTable {X0:Nat→Prop} {w:World} (hX:NX X0 w) (p s:Sl) (c:NL) {n:Nat} {P:Nat→Nat→Int} {q:Nat→Int} {C:Int} (hp:Mt n (fun _=>n) P p X0 w) (hq:Ls n q s X0 w) (hc:c.is X0 w) (ez_c:c.z=C)  (hn:n≤100):Calls Tryz.prog 28 #[.agg #[p.v,s.v,.bool c.b,.slice c.a c.n c.c]] w (PTab X0 2 (fun j=>EN (tbl n P q C j)) (n+1) (fun _=>n+1) 27 30 w):=by
 have hZ0:=zs_start hX
 have hZ1:=hZ0.more (f:=c.is) c.stb hc
 clear hZ0
 have hZ2:=hZ1.more (f:=Ls n q s) (Ls.stb _ _ _) hq
 clear hZ1
 have hZ3:=hZ2.more (f:=Mt n (fun _=>n) P p) (Mt.stb _ _ _ _) hp
 clear hZ2
 go_enter Tryz.func28,Tryz.ntmps28
 go_wp2_with (refine zsb 32 (.tmp 0) #[p.v,s.v,.bool c.b,.slice c.a c.n c.c] rfl rfl rfl hZ3 (fun bk1 X4 W1 hZ4=>?_))
 clear hZ3
 simp only [Stop,Act.put,zzC,zzD,zzE]
 have hZ5:=hZ4.release hX
 clear hZ4
 go_wp2_with (refine zso rfl (fun K hK=>wp_fda (v:=.pointer (some ⟨bk1,1,none⟩)) 32 (.tmp 1) 1 rfl rfl (fun _=>by kernel_rfl) (hK _ _ ?_)))
 simp only [Stop,Act.put,zzC,zzD,zzE]
 go_wp2_with (refine zso rfl (fun K hK=>wp_load1 (v:=s.v) 27 (.tmp 4) rfl bk1 1 #[p.v,s.v,.bool c.b,.slice c.a c.n c.c] 32 (hZ5.get 0 (f:=Cf bk1 #[p.v,s.v,.bool c.b,.slice c.a c.n c.c] 32) rfl).1 rfl ag27 (by kernel_rfl) (hK _ _ ?_)))
 simp only [Stop,Act.put,zzC,zzD,zzE]
 go_wp2_with (refine zso rfl (fun K hK=>wp_lenq (.tmp 5) 27 30 s rfl (by kernel_rfl) rfl (hZ5.get 2 (f:=Ls n q s) rfl).n (hK _ _ ?_)))
 simp only [Stop,Act.put,zzC,zzD,zzE]
 go_wp2_with (refine zso rfl (fun K hK=>wp_mkf 65 #[.tmp 1] #[.pointer (some ⟨bk1,0,none⟩)] rfl (map1 rfl) (hK _ _ ?_)))
 simp only [Stop,Act.put,zzC,zzD,zzE]
 go_wp2_with fail
 refine (uMadeT hZ5.nx n 65 #[.pointer (some ⟨bk1,0,none⟩)] (fun _=>n+1) (tbl n P q C) (by omega) ⟨fun _ _=>rfl,fun i hi X' W' hx he hb=>(show Calls _ _ #[.int .i64 ((i:Nat):Int),.pointer (some ⟨bk1,0,none⟩)] _ _ from uTable1 hx p s c bk1 i hi hn (Cf.stb _ _ _ _ _ _ _ he (hZ5.get 0 (f:=Cf bk1 #[p.v,s.v,.bool c.b,.slice c.a c.n c.c] 32) rfl)) (Mt.stb _ _ _ _ _ _ _ _ he (hZ5.get 1 (f:=Mt n (fun _=>n) P p) rfl)) (Ls.stb _ _ _ _ _ _ _ he (hZ5.get 2 (f:=Ls n q s) rfl)))⟩).mono ?_
 rintro zz W2 ⟨so,Co,r0,D0,XM,rfl,hn_so,hw_so,hC_so,hz_so⟩
 have hZ6:=hZ5.andThen hz_so
 clear hZ5 hz_so
 have hZ7:Zs w W2 X0 XM ([]++(owl so Co 27++rwl r0 D0 30 n)) [Rw 2 (fun j=>EN (tbl n P q C j)) n (fun _=>n+1) r0 D0,Cf bk1 #[p.v,s.v,.bool c.b,.slice c.a c.n c.c] 32,Mt n (fun _=>n) P p,Ls n q s,c.is]:=hZ6.perm List.perm_append_comm
 clear hZ6
 go_wp2_with (refine zso rfl (fun K hK=>wp_fda (v:=.pointer (some ⟨bk1,1,none⟩)) 32 (.tmp 1) 1 rfl rfl (fun _=>by kernel_rfl) (hK _ _ ?_)))
 simp only [Stop,Act.put,zzC,zzD,zzE]
 go_wp2_with (refine zso rfl (fun K hK=>wp_load1 (v:=s.v) 27 (.tmp 10) rfl bk1 1 #[p.v,s.v,.bool c.b,.slice c.a c.n c.c] 32 (hZ7.get 1 (f:=Cf bk1 #[p.v,s.v,.bool c.b,.slice c.a c.n c.c] 32) rfl).1 rfl ag27 (by kernel_rfl) (hK _ _ ?_)))
 simp only [Stop,Act.put,zzC,zzD,zzE]
 go_wp2_with (refine zso rfl (fun K hK=>wp_fda (v:=.pointer (some ⟨bk1,2,none⟩)) 32 (.tmp 1) 2 rfl rfl (fun _=>by kernel_rfl) (hK _ _ ?_)))
 simp only [Stop,Act.put,zzC,zzD,zzE]
 go_wp2_with (refine zso rfl (fun K hK=>wp_load 30 (.tmp 12) rfl bk1 2 2 #[p.v,s.v,.bool c.b,.slice c.a c.n c.c] #[.bool c.b,.slice c.a c.n c.c] 32 (hZ7.get 1 (f:=Cf bk1 #[p.v,s.v,.bool c.b,.slice c.a c.n c.c] 32) rfl).1 rfl ag30 sz30 (zzF (by kernel_rfl)) (by kernel_rfl) (hK _ _ ?_)))
 simp only [Stop,Act.put,zzC,zzD,zzE]
 go_wp2_with (refine zso rfl (fun K hK=>wp_bsn ei27 (.tmp 13) c rfl rfl hZ7 (hZ7.get 4 (f:=c.is) rfl) (fun s1 W3 _ hZ8=>hK _ _ ?_)))
 simp only [Stop,Act.put,zzC,zzD,zzE]
 clear hZ7
 have hZ9:=(hZ8.more (f:=Ls 1 (fun _=>C) s1) (Ls.stb _ _ _) (hZ8.get 0 (f:=Ls 1 (fun _=>c.z) s1) rfl |>.congr (fun _ _=>ez_c))).only [Ls 1 (fun _=>C) s1,Rw 2 (fun j=>EN (tbl n P q C j)) n (fun _=>n+1) r0 D0,Cf bk1 #[p.v,s.v,.bool c.b,.slice c.a c.n c.c] 32,Mt n (fun _=>n) P p,Ls n q s,c.is] (by simp)
 clear hZ8
 go_wp2_with fail
 refine ((uLong hZ9.nx s s1 (hZ9.get 4 (f:=Ls n q s) rfl) (hZ9.get 0 (f:=Ls 1 (fun _=>C) s1) rfl) (by omega)).mono (plong_own (by omega))).mono ?_
 rintro zz W4 ⟨o2,C2,XC2,rfl,hn_o2,hw_o2,hz_o2⟩
 have hZ10:=hZ9.andThen hz_o2
 clear hZ9 hz_o2
 have hZ11:Zs w W4 X0 XC2 ([]++(owl o2 C2 30++(owl so Co 27++rwl r0 D0 30 n))) [Fl 2 (EN (jn n q (fun _=>C))) (n+1) C2,Ls 1 (fun _=>C) s1,Rw 2 (fun j=>EN (tbl n P q C j)) n (fun _=>n+1) r0 D0,Cf bk1 #[p.v,s.v,.bool c.b,.slice c.a c.n c.c] 32,Mt n (fun _=>n) P p,Ls n q s,c.is]:=hZ10.perm ((perm_mid (owl o2 C2 30) [] (owl so Co 27++rwl r0 D0 30 n)))
 clear hZ10
 obtain ⟨X12,hZ12⟩:=Zs.releaseV (g:=(fun i=>(r0 i).v)) (hZ11.perm ((List.Perm.append_left _ (perm_mid _ _ _)).trans (perm_mid _ _ _))) hX hw_so hn_so hC_so
 clear hZ11
 go_wp2_with (refine zso rfl (fun K hK=>wp_bsv ei25 (.tmp 15) (o2.v) rfl rfl rfl hZ12 (fun s3 W5 hZ13=>hK _ _ ?_)))
 simp only [Stop,Act.put,zzC,zzD,zzE]
 clear hZ12
 go_wp2_with fail
 refine (uLongV hZ13.nx so s3 (hZ13.get 1 (f:=Vs n (fun i=>(r0 i).v) so) rfl) (hZ13.get 0 (f:=Vs 1 (fun _=>o2.v) s3) rfl) (by omega)).mono ?_
 rintro zz W6 ⟨st,Ct,XT,rfl,hn_st,hw_st,hA_st,hB_st,hz_st⟩
 have hZ14:=hZ13.andThen hz_st
 clear hZ13 hz_st
 have hZ15:Zs w W6 X0 XT ([]++(owl st Ct 27++(owl o2 C2 30++rwl r0 D0 30 n))) [Vs 1 (fun _=>o2.v) s3,Vs n (fun i=>(r0 i).v) so,Fl 2 (EN (jn n q (fun _=>C))) (n+1) C2,Ls 1 (fun _=>C) s1,Rw 2 (fun j=>EN (tbl n P q C j)) n (fun _=>n+1) r0 D0,Cf bk1 #[p.v,s.v,.bool c.b,.slice c.a c.n c.c] 32,Mt n (fun _=>n) P p,Ls n q s,c.is]:=hZ14.perm ((perm_mid (owl st Ct 27) [] (owl o2 C2 30++rwl r0 D0 30 n)))
 clear hZ14
 go_wp2
 go_ret
 have hZ16r:=Rw.snoc (E:=fun j=>EN (tbl n P q C j)) (hZ15.get 4 (f:=Rw 2 (fun j=>EN (tbl n P q C j)) n (fun _=>n+1) r0 D0) rfl) hn_o2 rfl hw_o2 (Fl.ncongr (g:=tbl n P q C n) (hZ15.get 2 (f:=Fl 2 (EN (jn n q (fun _=>C))) (n+1) C2) rfl) (fun j _=>tbl_last n P q C j))
 have hZ16z:Zs w W6 X0 XT ([]++(owl st Ct 27++rwl (upf r0 n o2) (upf D0 n C2) 30 (n+1))) [Rw 2 (fun j=>EN (tbl n P q C j)) (n+1) (fun _=>n+1) (upf r0 n o2) (upf D0 n C2)]:=by
  rw [rwl_snoc]
  have h:=(hZ15.more (f:=Rw 2 (fun j=>EN (tbl n P q C j)) (n+1) (fun _=>n+1) (upf r0 n o2) (upf D0 n C2)) (Rw.stb (fun j=>EN.stb _) _ _ _ _) hZ16r).only [Rw 2 (fun j=>EN (tbl n P q C j)) (n+1) (fun _=>n+1) (upf r0 n o2) (upf D0 n C2)] (by simp)
  exact h.perm (by
   classical
   refine List.perm_iff_count.2 fun x=>?_
   simp only [List.count_append,List.count_nil]
   omega)
 exact ⟨st,Ct,_,_,_,rfl,hn_st,hw_st,tab_cells hA_st hB_st,hZ16z⟩
end Go.Proofs.YtjclllindbfmhabGreatDoor
