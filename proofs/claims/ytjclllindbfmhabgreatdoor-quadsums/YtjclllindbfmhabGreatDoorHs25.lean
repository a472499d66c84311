/- Parts of the proof. -/
import Derived.Test.YtjclllindbfmhabGreatDoorHs0
import Derived.Test.YtjclllindbfmhabGreatDoorHs24
import Derived.Test.YtjclllindbfmhabGreatDoorHs22
import Derived.Test.YtjclllindbfmhabGreatDoorHs20
set_option linter.unusedSimpArgs false
set_option linter.unusedVariables false
namespace Go.Proofs.YtjclllindbfmhabGreatDoor
/- Package lin: the walks of triangle and Det. No statement of the seat is proved here. -/
open Go Go.RowKit
/-- What triangle tells: the rows that were taken, the determinant. -/
def PTri (X:Nat→Prop) (m c e:Nat) (A:Nat→Nat→Int) (w:World) (en:Ending) (w':World):Prop:=∃ (s:Sl) (p:NL),en=.returned (.tuple #[s.v,p.v])∧p.z=M.dt m A∧p.is X w'∧(M.dt m A ≠ 0→∃ T:Nat→Nat→Int,Mt m (fun i=>c+(m - i)) T s X w'∧∀ i,i < m→Top m c e A i (T i))∧Below w.heap.size w w'
theorem sgt_det {t:Bool} {d D:Int} (h:D=sgt t*d):D=if t then -d else d:=by cases t <;> simp_all [sgt]
set_option maxRecDepth 100000 in
set_option maxHeartbeats 12800000 in
theorem lTri {X0:Nat→Prop} {w:World} (hX:NX X0 w) (a:Sl) {m c e:Nat} {A:Nat→Nat→Int} (hm:m≤12) (hc:c≤12) (he1:1≤e) (he:e≤200) (ha:Mt m (fun _=>c+m) A a X0 w) (bA:∀ i j,i < m→j < c+m→Sz e (A i j)):Calls Tryz.prog 60 #[a.v] w (PTri X0 m c e A w):=by
 have hZ0:=zs_start hX
 have hZ1:=hZ0.more (f:=Mt m (fun _=>c+m) A a) (Mt.stb _ _ _ _) ha
 clear hZ0
 go_enter Tryz.func60,Tryz.ntmps60
 go_wp2_with (refine zsa 30 #[.bool false,.slice none 0 0] (.agg #[.bool false,.slice none 0 0]) rfl rfl zv30 rfl hZ1 (fun bk1 X2 W1 hZ2=>?_))
 clear hZ1
 simp only [Stop,Act.put,zzC,zzD,zzE]
 go_wp2_with fail
 refine (zOf hZ2.nx (by omega) (by omega)).mono ?_
 rintro zz W2 ⟨q1,rfl,ez_q1,hi_q1,hB⟩
 have hZ3:=hZ2.later hB
 clear hB hZ2
 have hZ4:=hZ3.more (f:=q1.is) q1.stb hi_q1
 clear hZ3 hi_q1
 go_wp2_with (refine zsa 30 #[.bool false,.slice none 0 0] (.agg #[.bool false,.slice none 0 0]) rfl rfl zv30 rfl hZ4 (fun bk2 X5 W3 hZ5=>?_))
 clear hZ4
 simp only [Stop,Act.put,zzC,zzD,zzE]
 go_wp2_with (refine zss 30 (.tmp 4) (.tmp 8) 0 bk2 0 #[.bool false,.slice none 0 0] 30 2 [.bool q1.b,.slice q1.a q1.n q1.c] #[.bool q1.b,.slice q1.a q1.n q1.c] [(bk2,#[.bool q1.b,.slice q1.a q1.n q1.c],30),(bk1,#[.bool false,.slice none 0 0],30)] rfl rfl rfl rfl sz30 hZ5 rfl rfl (zzF (by kernel_rfl)) (by kernel_rfl) (by kernel_rfl) (by kernel_rfl) (fun W4 hZ6=>?_))
 clear hZ5
 simp only [Stop,Act.put,zzC,zzD,zzE]
 go_wp2
 go_loopw [0,2,5] (fun rv tv bv wr=>∃ (k r:Nat) (rows tops:Sl) (Ct:Array Value) (T:Nat→Nat→Int) (p:NL) (B:Nat→Nat→Int) (d:Int) (t:Bool) (X:Nat→Prop),rv=rows.v∧tv=tops.v∧bv=.bool t∧p.z=d∧Inv m c e A k r B d t∧(∀ i,i < k→Top m c e A i (T i))∧tops.n=k∧Wr 1 tops Ct∧Zs w wr X0 X ([(bk2,#[.bool p.b,.slice p.a p.n p.c],30),(bk1,#[.bool false,.slice none 0 0],30)]++owl tops Ct 27) [p.is,Mt r (fun _=>c+r) B rows,Fl 1 (ER (fun i=>c+(m - i)) T) k Ct]) (fun rv _ _ _=>sLen rv)
 case atStart=>exact ⟨0,m,a,slz,#[],fun _ _=>0,q1,A,1,false,_,rfl,rfl,rfl,ez_q1,inv_start he1 bA,fun i hi=>absurd hi (Nat.not_lt_zero i),rfl,wr_slz 1,(hZ6.more (Fl.stb (ER.stb _ _) _ _) (fl_zero 1 (ER (fun i=>c+(m - i)) (fun _ _=>0)) #[] _ _)).only [q1.is,Mt m (fun _=>c+m) A a,Fl 1 (ER (fun i=>c+(m - i)) (fun _ _=>0)) 0 #[]] (by simp)⟩
 case round =>
  obtain ⟨k,r,rows,tops,Ct,T,p,B,d,t,X,rfl,rfl,rfl,ez_p,hI,hT,hn_tops,hw_tops,hZ⟩:=hrel
  have hIl:=hI.len
  have heb:eb e k≤830000:=eb_le he (by omega)
  have HD:=Lib.hid hI.dv.1
  have HS:=Lib.hid hI.szd
  have HI:=Lib.hid hI
  have HT:=Lib.hid hT
  clear hI hT
  by_cases hr:0 < r
  ·
   obtain ⟨r,rfl⟩:∃ s,r=s+1:=⟨r - 1,by omega⟩
   have hn0:rows.n=(r+1):=(hZ.get 1 (f:=Mt (r+1) (fun _=>c+(r+1)) B rows) rfl).n
   obtain ⟨p0,hp0⟩:∃ q,q=pvl (r+1) (fun i=>B i 0):=⟨_,rfl⟩
   have HP:=Lib.hid hp0
   have hple:p0≤r+1:=by rw [hp0]; exact pvl_le _ _
   clear hp0
   go_wp2_with (refine zso rfl (fun K hK=>wp_lenq (.tmp 9) 25 27 rows rfl (by kernel_rfl) rfl (hZ.get 1 (f:=Mt (r+1) (fun _=>c+(r+1)) B rows) rfl).n (hK _ _ ?_)))
   simp only [Stop,Act.put,zzC,zzD,zzE]
   go_wp2_with (refine zso rfl (fun K hK=>wp_gtri (.tmp 10) (.const (.int .i64 0)) rfl rfl rfl (r:=true) (decide_eq_true (by omega)) (hK _ _ ?_)))
   simp only [Stop,Act.put,zzC,zzD,zzE]
   go_wp2_with fail
   refine ((lFirst hZ.nx rows (c:=c+r) (by omega) (hZ.get 1 (f:=Mt (r+1) (fun _=>c+(r+1)) B rows) rfl)).mono (fun _ _ h=>by rw [← HP.out] at h; exact h)).mono ?_
   rintro zz W5 ⟨rfl,hB⟩
   have hZ7:=hZ.later hB
   clear hB hZ
   by_cases hlt:p0 < r+1
   ·
    have HT0:Hid (Top m c e A k (B p0)):=show _ from by have h:=HI.out.top (by rw [← HP.out]; exact hlt); rw [← HP.out] at h; exact h
    have HN:Hid (Inv m c e A (k+1) r (M.cnd B p0 d) (B p0 0) (t != decide (p0 % 2=1))):=show _ from by have h:=HI.out.step (by rw [← HP.out]; exact hlt); rw [← HP.out] at h; exact h
    go_wp2_with (refine zso rfl (fun K hK=>wp_lenq (.tmp 15) 25 27 rows rfl (by kernel_rfl) rfl (hZ7.get 1 (f:=Mt (r+1) (fun _=>c+(r+1)) B rows) rfl).n (hK _ _ ?_)))
    simp only [Stop,Act.put,zzC,zzD,zzE]
    go_wp2_with (refine zso rfl (fun K hK=>wp_eqli (.tmp 14) (.tmp 16) 3 3 rfl rfl rfl rfl (r:=false) (decide_eq_false (by omega)) (hK _ _ ?_)))
    simp only [Stop,Act.put,zzC,zzD,zzE]
    go_wp2_with (refine zso rfl (fun K hK=>wp_rem2 (.tmp 20) (.const (.int .i64 2)) rfl rfl rfl (hK _ _ ?_)))
    simp only [Stop,Act.put,zzC,zzD,zzE]
    go_wp2_with (refine zso rfl (fun K hK=>wp_eqli (.tmp 21) (.const (.int .i64 1)) 3 3 rfl rfl rfl rfl (r:=(decide (p0 % 2=1))) (decide_eq_decide.2 (by omega)) (hK _ _ ?_)))
    simp only [Stop,Act.put,zzC,zzD,zzE]
    go_wp2_with (refine zso rfl (fun K hK=>wp_neqb (.tmp 19) (.tmp 22) 4 4 rfl rfl rfl rfl (hK _ _ ?_)))
    simp only [Stop,Act.put,zzC,zzD,zzE]
    go_wp2_with (refine zso rfl (fun K hK=>wp_ixs 25 (.tmp 24) (.tmp 25) rows p0 1 27 rfl rfl rfl (by kernel_rfl) sz27 (fun h=>((hZ7.get 1 (f:=Mt (r+1) (fun _=>c+(r+1)) B rows) rfl).sq.nil h).1) ((hZ7.get 1 (f:=Mt (r+1) (fun _=>c+(r+1)) B rows) rfl).n ▸ (by omega)) (hK _ _ ?_)))
    simp only [Stop,Act.put,zzC,zzD,zzE]
    go_wp2_with (refine zso rfl (fun K hK=>wp_ldm 27 (.tmp 26) rows p0 ((r+1)) (fun _=>c+(r+1)) B rfl rfl (hZ7.get 1 (f:=Mt (r+1) (fun _=>c+(r+1)) B rows) rfl) (by omega) ag27 (fun s2 hi_s2=>hK _ _ ?_)))
    simp only [Stop,Act.put,zzC,zzD,zzE]
    have hZ8:=hZ7.more (f:=Ls (c+(r+1)) (B p0) s2) (Ls.stb _ _ _) hi_s2
    clear hZ7 hi_s2
    go_wp2_with (refine zso rfl (fun K hK=>wp_bs1 ei25 (.tmp 29) rfl rfl rfl (hK _ _ ?_)))
    simp only [Stop,Act.put,zzC,zzD,zzE]
    have hZ9:=hZ8.later (below_new _ (.cells #[s2.v] 27))
    clear hZ8
    have hZ10y:=hZ9.perm List.perm_append_comm
    go_wp2_with (refine zso rfl (fun K hK=>wp_app ei25 (.tmp 28) (.tmp 30) rfl (s:=tops) rfl ⟨W5.heap.size,0,none⟩ 1 rfl hw_tops (by rw [hn_tops]; omega) hZ10y [s2.v] rfl (cell_one _ s2.v _) (fun u hu=>by simp only [List.mem_cons,List.not_mem_nil,or_false] at hu; subst hu; rfl) (fun o3 C3 X10 W6 hn_o3 hw_o3 ho_C3 hg_C3 hZ10x=>hK _ _ ?_)))
    simp only [Stop,Act.put,zzC,zzD,zzE]
    clear hZ10y
    rw [hn_tops] at hn_o3 ho_C3 hg_C3
    have hZ10:=hZ10x.perm List.perm_append_comm
    clear hZ10x hZ9
    have hZ11s:Fl 1 (ER (fun i=>c+(m - i)) (fun i=>if i < k then T i else B p0)) (k+1) C3 X10 W6:=Fl.snoc (C:=Ct) (Fl.congr (hZ10.get 3 (f:=Fl 1 (ER (fun i=>c+(m - i)) T) k Ct) rfl) (fun i cs hi ⟨q,h1,h2⟩=>⟨q,by simp only [if_pos hi]; exact h1,h2⟩)) rfl ho_C3 hg_C3 ⟨s2,by simp only [if_neg (Nat.lt_irrefl k),show m - k=r+1 by omega]; exact (hZ10.get 0 (f:=Ls (c+(r+1)) (B p0) s2) rfl),rfl⟩
    have hZ11:=hZ10.more (Fl.stb (ER.stb _ _) _ _) hZ11s
    clear hZ10 hZ11s
    go_wp2
    have hM:Zs w W6.drew X0 X10 ([(bk2,#[.bool p.b,.slice p.a p.n p.c],30),(bk1,#[.bool false,.slice none 0 0],30)]++owl o3 C3 27) [Fl 1 (ER (fun i=>c+(m - i)) (fun i=>if i < k then T i else B p0)) (k+1) C3,Ls (c+(r+1)) (B p0) s2,p.is,Mt (r+1) (fun _=>c+(r+1)) B rows,Fl 1 (ER (fun i=>c+(m - i)) T) k Ct]∧Below W6.heap.size W6 W6.drew:=⟨hZ11.later (Below.refl _ _).drew,(Below.refl _ _).drew⟩
    clear hZ11
    have hVS9:∀ k,k ∈ ([veq (rows.v),veq (.int .i64 (((p0:Nat):Int))),veq (p.v),vmt r (fun _=>c+r) (M.cnd B p0 d),veq (s2.v),veq ((s2.at 2 0)),vnum (B p0 0),vmt r (fun _=>c+r) (M.cnd B p0 d)]:List VF)→VSt k:=by
     intro k hk
     simp only [List.mem_cons,List.not_mem_nil,or_false] at hk
     rcases hk with rfl | rfl | rfl | rfl | rfl | rfl | rfl | rfl
     ·
      exact veq_st _
     ·
      exact veq_st _
     ·
      exact veq_st _
     ·
      exact vmt_st _ _ _
     ·
      exact veq_st _
     ·
      exact veq_st _
     ·
      exact vnum_st _
     ·
      exact vmt_st _ _ _
    refine wp_region_q 8 [some 32,some 33,some 34,some 35,some 36,some 37,some 38,some 0] (vzL [veq (rows.v),veq (.int .i64 (((p0:Nat):Int))),veq (p.v),vmt r (fun _=>c+r) (M.cnd B p0 d),veq (s2.v),veq ((s2.at 2 0)),vnum (B p0 0),vmt r (fun _=>c+r) (M.cnd B p0 d)] X10) (fun W=>Zs w W X0 X10 ([(bk2,#[.bool p.b,.slice p.a p.n p.c],30),(bk1,#[.bool false,.slice none 0 0],30)]++owl o3 C3 27) [Fl 1 (ER (fun i=>c+(m - i)) (fun i=>if i < k then T i else B p0)) (k+1) C3,Ls (c+(r+1)) (B p0) s2,p.is,Mt (r+1) (fun _=>c+(r+1)) B rows,Fl 1 (ER (fun i=>c+(m - i)) T) k Ct]∧Below W6.heap.size W6 W) (by kernel_rfl) (by kernel_rfl) (by rfl) (by decide) (by rfl) hM ?_ ?_
    ·
     intro i hl hi LL uu ww aa hLi hLc hJ hd hev hin hold
     clear hM
     obtain ⟨hJ,hJb⟩:=hJ
     obtain rfl | rfl | rfl | rfl | rfl | rfl | rfl | rfl:i=0∨i=1∨i=2∨i=3∨i=4∨i=5∨i=6∨i=7:=by omega
     ·
      have hL0:LL 7=false:=by
       cases q7:LL 7 with
       | false=>rfl
       | true =>
        have q3:=hLc 7 (by decide) q7 3 (by kernel_rfl)
        have q0:=hLc 3 (by decide) q3 0 (by kernel_rfl)
        rw [hLi] at q0
        cases q0
      exact .inr ⟨rfl,fun K' hK=>wp_move (.tmp 0) rfl (zet ((hold 7 0 (by decide) hL0 rfl).trans rfl)) (hK _ _ ⟨hJ,hJb⟩ rfl zvs)⟩
     ·
      exact .inr ⟨rfl,fun K' hK=>wp_move (.tmp 6) rfl (zet ((hev 6 (by decide)).trans rfl)) (hK _ _ ⟨hJ,hJb⟩ rfl zvs)⟩
     ·
      exact .inr ⟨rfl,fun K' hK=>wp_load 30 (.tmp 4) rfl bk2 0 2 #[.bool p.b,.slice p.a p.n p.c] #[.bool p.b,.slice p.a p.n p.c] 30 (hJ.es.at' _ (zzG (i:=0) rfl)) (zet ((hev 4 (by decide)).trans rfl)) ag30 sz30 (zzF (by kernel_rfl)) (by kernel_rfl) (hK _ _ ⟨hJ,hJb⟩ rfl zvs)⟩
     ·
      refine .inr ⟨rfl,fun K' hK=>?_⟩
      refine zcz (.func 83) #[.tmp 32,.tmp 33,.tmp 34] #[25,3,30] 83 #[] #[rows.v,.int .i64 (((p0:Nat):Int)),p.v] _ rfl rfl (map3 (zet ((hin 0 32 rfl).trans (congrArg some (show uu 0=rows.v from hd 0 (by decide) (by kernel_rfl))))) (zet ((hin 1 33 rfl).trans (congrArg some (show uu 1=.int .i64 (((p0:Nat):Int)) from hd 1 (by decide) (by kernel_rfl))))) (zet ((hin 2 34 rfl).trans (congrArg some (show uu 2=p.v from hd 2 (by decide) (by kernel_rfl)))))) rfl (fun _ _=>rfl) (lCondensed (m:=r) (c:=c+r) hJ.nx rows p0 p hlt (hJ.get 3 (f:=Mt (r+1) (fun _=>c+(r+1)) B rows) rfl) (hJ.get 2 (f:=p.is) rfl) ez_p (fun a j ha hj=>HI.out.sz a j ha hj) HS.out (by omega) (by omega) HD.out (by omega) (by omega)) ?_
      rintro zz ww2 ⟨s4,rfl,hi_s4,hB⟩
      exact ⟨_,rfl,hK _ _ ⟨hJ.later hB,hJb.trans (hB.mono hJb.size)⟩ ⟨s4,rfl,hi_s4⟩ (zvl hVS9 hB)⟩
     ·
      exact .inr ⟨rfl,fun K' hK=>wp_move (.tmp 7) rfl (zet ((hev 7 (by decide)).trans rfl)) (hK _ _ ⟨hJ,hJb⟩ rfl zvs)⟩
     ·
      exact .inr ⟨rfl,fun K' hK=>wp_ixs 27 (.tmp 36) (.const (.int .i64 0)) s2 0 2 30 rfl (zet ((hin 4 36 rfl).trans (congrArg some (show uu 4=s2.v from hd 4 (by decide) (by kernel_rfl))))) rfl (by kernel_rfl) sz30 (fun h=>((hJ.get 1 (f:=Ls (c+(r+1)) (B p0) s2) rfl).sq.nil h).1) ((hJ.get 1 (f:=Ls (c+(r+1)) (B p0) s2) rfl).n ▸ (by omega)) (hK _ _ ⟨hJ,hJb⟩ rfl zvs)⟩
     ·
      exact .inr ⟨rfl,fun K' hK=>wp_ldn 30 (.tmp 37) s2 0 (c+(r+1)) (B p0) rfl (zet ((hin 5 37 rfl).trans (congrArg some (show uu 5=(s2.at 2 0) from hd 5 (by decide) (by kernel_rfl))))) (hJ.get 1 (f:=Ls (c+(r+1)) (B p0) s2) rfl) (by omega) ag30 sz30 (fun q5 ez_q5 hi_q5=>hK _ _ ⟨hJ,hJb⟩ ⟨q5,rfl,ez_q5,hi_q5⟩ zvs)⟩
     ·
      obtain ⟨s4,e3,hi_s4⟩:=(show (vmt r (fun _=>c+r) (M.cnd B p0 d)) (uu 3) X10 ww from hd 3 (by decide) (by kernel_rfl))
      replace hJ:=hJ.more (f:=Mt r (fun _=>c+r) (M.cnd B p0 d) s4) (Mt.stb _ _ _ _) hi_s4
      exact .inr ⟨rfl,fun K' hK=>wp_asgn (.tmp 35) rfl (zet ((hin 3 35 rfl).trans (congrArg some e3))) (hK _ _ ⟨(hJ.only [Fl 1 (ER (fun i=>c+(m - i)) (fun i=>if i < k then T i else B p0)) (k+1) C3,Ls (c+(r+1)) (B p0) s2,p.is,Mt (r+1) (fun _=>c+(r+1)) B rows,Fl 1 (ER (fun i=>c+(m - i)) T) k Ct] (by simp)),hJb⟩ ⟨s4,rfl,hi_s4⟩ zvs)⟩
    clear hM
    intro uu W7 hZ12p hd
    obtain ⟨hZ12,hb9⟩:=hZ12p
    have e_0:uu 0=rows.v:=hd 0 (by decide)
    have e_1:uu 1=.int .i64 (((p0:Nat):Int)):=hd 1 (by decide)
    have e_2:uu 2=p.v:=hd 2 (by decide)
    obtain ⟨s4,e_3,hi_s4⟩:=(show (vmt r (fun _=>c+r) (M.cnd B p0 d)) (uu 3) X10 W7 from hd 3 (by decide))
    have e_4:uu 4=s2.v:=hd 4 (by decide)
    have e_5:uu 5=(s2.at 2 0):=hd 5 (by decide)
    obtain ⟨q5,e_6,ez_q5,hi_q5⟩:=(show (vnum (B p0 0)) (uu 6) X10 W7 from hd 6 (by decide))
    obtain ⟨s4_7,e_7,hi_s4_7⟩:=(show (vmt r (fun _=>c+r) (M.cnd B p0 d)) (uu 7) X10 W7 from hd 7 (by decide))
    clear hd hVS9
    simp only [layS,Act.put,zzC,zzD,zzE,Nat.zero_add,Nat.reduceAdd,List.drop_succ_cons,List.drop_zero,List.drop_nil,e_0,e_1,e_2,e_3,e_4,e_5,e_6,e_7]
    clear e_0 e_1 e_2 e_3 e_4 e_5 e_6 e_7
    have hZ13:=hZ12.more (f:=Mt r (fun _=>c+r) (M.cnd B p0 d) s4) (Mt.stb _ _ _ _) hi_s4
    clear hZ12 hi_s4
    have hZ14:=hZ13.more (f:=q5.is) q5.stb hi_q5
    clear hZ13 hi_q5
    have hZ15:=hZ14.more (f:=Mt r (fun _=>c+r) (M.cnd B p0 d) s4_7) (Mt.stb _ _ _ _) hi_s4_7
    clear hZ14 hi_s4_7
    go_wp2_with (refine zss 30 (.tmp 4) (.tmp 38) 0 bk2 0 #[.bool p.b,.slice p.a p.n p.c] 30 2 [.bool q5.b,.slice q5.a q5.n q5.c] #[.bool q5.b,.slice q5.a q5.n q5.c] ([(bk2,#[.bool q5.b,.slice q5.a q5.n q5.c],30),(bk1,#[.bool false,.slice none 0 0],30)]++owl o3 C3 27) rfl rfl rfl rfl sz30 hZ15 rfl rfl (zzF (by kernel_rfl)) (by kernel_rfl) (by kernel_rfl) (by kernel_rfl) (fun W8 hZ16=>?_))
    clear hZ15
    simp only [Stop,Act.put,zzC,zzD,zzE]
    have hZ17:=hZ16.only [q5.is,Mt r (fun _=>c+r) (M.cnd B p0 d) s4_7,Fl 1 (ER (fun i=>c+(m - i)) (fun i=>if i < k then T i else B p0)) (k+1) C3] (by simp)
    clear hZ16
    go_wp2
    go_roundw
    case rel=>exact ⟨k+1,r,s4_7,o3,C3,fun i=>if i < k then T i else B p0,q5,_,_,_,_,rfl,rfl,rfl,ez_q5,HN.out,fun i hi=>by
      by_cases e_:i < k
      ·
       simp only [if_pos e_]; exact HT.out i e_
      ·
       simp only [if_neg e_]; obtain rfl:i=k:=(by omega); exact HT0.out,hn_o3,hw_o3,hZ17⟩
    case measure=>(simp only [sLen,Sl.v]; have h2:=(hZ17.get 1 (f:=Mt r (fun _=>c+r) (M.cnd B p0 d) s4_7) rfl).n; omega)
   ·
    obtain rfl:p0=r+1:=by omega
    have hz0:M.dt m A=0:=HI.out.none_ HP.out.symm
    have HZ0:=Lib.hid hz0
    clear hz0
    go_wp2_with (refine zso rfl (fun K hK=>wp_lenq (.tmp 15) 25 27 rows rfl (by kernel_rfl) rfl (hZ7.get 1 (f:=Mt (r+1) (fun _=>c+(r+1)) B rows) rfl).n (hK _ _ ?_)))
    simp only [Stop,Act.put,zzC,zzD,zzE]
    go_wp2_with (refine zso rfl (fun K hK=>wp_eqli (.tmp 14) (.tmp 16) 3 3 rfl rfl rfl rfl (r:=true) (decide_eq_true rfl) (hK _ _ ?_)))
    simp only [Stop,Act.put,zzC,zzD,zzE]
    go_wp2_with (refine zss 30 (.tmp 3) (.tmp 18) 1 bk1 0 #[.bool false,.slice none 0 0] 30 2 [.bool false,.slice none 0 0] #[.bool false,.slice none 0 0] ([(bk2,#[.bool p.b,.slice p.a p.n p.c],30),(bk1,#[.bool false,.slice none 0 0],30)]++owl tops Ct 27) rfl rfl rfl rfl sz30 hZ7 rfl rfl (zzF (by kernel_rfl)) (by kernel_rfl) (by kernel_rfl) (by kernel_rfl) (fun W9 hZ18=>?_))
    clear hZ7
    simp only [Stop,Act.put,zzC,zzD,zzE]
    go_wp2
    exact bodyPost_ret (v:=.tuple #[.slice none 0 0,.agg #[.bool false,.slice none 0 0]]) (results_tc 1 Tryz.results60 hZ18.es rfl ag30 sz30 (zzF (by kernel_rfl)) rfl rfl (by kernel_rfl)) rfl ⟨slz,nlz,rfl,HZ0.out.symm,nlz_is _ _,fun h=>absurd HZ0.out h,hZ18.below⟩
  ·
   obtain rfl:r=0:=by omega
   obtain rfl:k=m:=by omega
   have hn0:rows.n=0:=(hZ.get 1 (f:=Mt 0 (fun _=>c+0) B rows) rfl).n
   have HE:=Lib.hid (sgt_det HI.out.end_)
   cases t
   ·
    go_wp2_with (refine zso rfl (fun K hK=>wp_lenq (.tmp 9) 25 27 rows rfl (by kernel_rfl) rfl (hZ.get 1 (f:=Mt 0 (fun _=>c+0) B rows) rfl).n (hK _ _ ?_)))
    simp only [Stop,Act.put,zzC,zzD,zzE]
    go_wp2_with (refine zso rfl (fun K hK=>wp_gtri (.tmp 10) (.const (.int .i64 0)) rfl rfl rfl (r:=false) (decide_eq_false (by omega)) (hK _ _ ?_)))
    simp only [Stop,Act.put,zzC,zzD,zzE]
    go_wp2
    have hM:Zs w wr.drew X0 X ([(bk2,#[.bool p.b,.slice p.a p.n p.c],30),(bk1,#[.bool false,.slice none 0 0],30)]++owl tops Ct 27) [p.is,Mt 0 (fun _=>c+0) B rows,Fl 1 (ER (fun i=>c+(k - i)) T) k Ct]∧Below wr.heap.size wr wr.drew:=⟨hZ.later (Below.refl _ _).drew,(Below.refl _ _).drew⟩
    clear hZ
    have hVS12:∀ k,k ∈ ([veq (tops.v),veq (p.v),veq (tops.v)]:List VF)→VSt k:=by
     intro k hk
     simp only [List.mem_cons,List.not_mem_nil,or_false] at hk
     rcases hk with rfl | rfl | rfl
     ·
      exact veq_st _
     ·
      exact veq_st _
     ·
      exact veq_st _
    refine wp_region_q 3 [some 43,some 44,some 2] (vzL [veq (tops.v),veq (p.v),veq (tops.v)] X) (fun W=>Zs w W X0 X ([(bk2,#[.bool p.b,.slice p.a p.n p.c],30),(bk1,#[.bool false,.slice none 0 0],30)]++owl tops Ct 27) [p.is,Mt 0 (fun _=>c+0) B rows,Fl 1 (ER (fun i=>c+(k - i)) T) k Ct]∧Below wr.heap.size wr W) (by kernel_rfl) (by kernel_rfl) (by rfl) (by decide) (by rfl) hM ?_ ?_
    ·
     intro i hl hi LL uu ww aa hLi hLc hJ hd hev hin hold
     clear hM
     obtain ⟨hJ,hJb⟩:=hJ
     obtain rfl | rfl | rfl:i=0∨i=1∨i=2:=by omega
     ·
      have hL2:LL 2=false:=by
       cases q2:LL 2 with
       | false=>rfl
       | true =>
        have q0:=hLc 2 (by decide) q2 0 (by kernel_rfl)
        rw [hLi] at q0
        cases q0
      exact .inr ⟨rfl,fun K' hK=>wp_move (.tmp 2) rfl (zet ((hold 2 2 (by decide) hL2 rfl).trans rfl)) (hK _ _ ⟨hJ,hJb⟩ rfl zvs)⟩
     ·
      exact .inr ⟨rfl,fun K' hK=>wp_load 30 (.tmp 4) rfl bk2 0 2 #[.bool p.b,.slice p.a p.n p.c] #[.bool p.b,.slice p.a p.n p.c] 30 (hJ.es.at' _ (zzG (i:=0) rfl)) (zet ((hev 4 (by decide)).trans rfl)) ag30 sz30 (zzF (by kernel_rfl)) (by kernel_rfl) (hK _ _ ⟨hJ,hJb⟩ rfl zvs)⟩
     ·
      exact .inr ⟨rfl,fun K' hK=>wp_asgn (.tmp 43) rfl (zet ((hin 0 43 rfl).trans (congrArg some (show uu 0=tops.v from hd 0 (by decide) (by kernel_rfl))))) (hK _ _ ⟨hJ,hJb⟩ rfl zvs)⟩
    clear hM
    intro uu W10 hZ19p hd
    obtain ⟨hZ19,hb12⟩:=hZ19p
    have e_0:uu 0=tops.v:=hd 0 (by decide)
    have e_1:uu 1=p.v:=hd 1 (by decide)
    have e_2:uu 2=tops.v:=hd 2 (by decide)
    clear hd hVS12
    simp only [layS,Act.put,zzC,zzD,zzE,Nat.zero_add,Nat.reduceAdd,List.drop_succ_cons,List.drop_zero,List.drop_nil,e_0,e_1,e_2]
    clear e_0 e_1 e_2
    go_wp2_with (refine zss 30 (.tmp 3) (.tmp 44) 1 bk1 0 #[.bool false,.slice none 0 0] 30 2 [.bool p.b,.slice p.a p.n p.c] #[.bool p.b,.slice p.a p.n p.c] ([(bk2,#[.bool p.b,.slice p.a p.n p.c],30),(bk1,#[.bool p.b,.slice p.a p.n p.c],30)]++owl tops Ct 27) rfl rfl rfl rfl sz30 hZ19 rfl rfl (zzF (by kernel_rfl)) (by kernel_rfl) (by kernel_rfl) (by kernel_rfl) (fun W11 hZ20=>?_))
    clear hZ19
    simp only [Stop,Act.put,zzC,zzD,zzE]
    go_wp2
    exact bodyPost_ret (v:=.tuple #[tops.v,.agg #[.bool p.b,.slice p.a p.n p.c]]) (results_tc 1 Tryz.results60 hZ20.es rfl ag30 sz30 (zzF (by kernel_rfl)) rfl rfl (by kernel_rfl)) rfl ⟨tops,p,rfl,(by rw [HE.out,ez_p]; rfl),hZ20.out 0 (f:=p.is) rfl,fun _=>⟨T,⟨hn_tops,hZ20.sq hX (ER.stb _ _) hw_tops (fun p hp=>List.mem_append_right _ hp) (hn_tops ▸ hZ20.get 2 (f:=Fl 1 (ER (fun i=>c+(k - i)) T) k Ct) rfl)⟩,fun i hi=>HT.out i hi⟩,hZ20.below⟩
   ·
    go_wp2_with (refine zso rfl (fun K hK=>wp_lenq (.tmp 9) 25 27 rows rfl (by kernel_rfl) rfl (hZ.get 1 (f:=Mt 0 (fun _=>c+0) B rows) rfl).n (hK _ _ ?_)))
    simp only [Stop,Act.put,zzC,zzD,zzE]
    go_wp2_with (refine zso rfl (fun K hK=>wp_gtri (.tmp 10) (.const (.int .i64 0)) rfl rfl rfl (r:=false) (decide_eq_false (by omega)) (hK _ _ ?_)))
    simp only [Stop,Act.put,zzC,zzD,zzE]
    go_wp2_with (refine zso rfl (fun K hK=>wp_load 30 (.tmp 4) rfl bk2 0 2 #[.bool p.b,.slice p.a p.n p.c] #[.bool p.b,.slice p.a p.n p.c] 30 (hZ.es.at' _ (zzG (i:=0) rfl)) rfl ag30 sz30 (zzF (by kernel_rfl)) (by kernel_rfl) (hK _ _ ?_)))
    simp only [Stop,Act.put,zzC,zzD,zzE]
    go_wp2_with fail
    refine (zNeg hZ.nx (hZ.get 0 (f:=p.is) rfl) ez_p HS.out (by omega)).mono ?_
    rintro zz W12 ⟨q6,rfl,ez_q6,hi_q6,hB⟩
    have hZ21:=hZ.later hB
    clear hB hZ
    have hZ22:=hZ21.more (f:=q6.is) q6.stb hi_q6
    clear hZ21 hi_q6
    go_wp2_with (refine zss 30 (.tmp 3) (.tmp 42) 1 bk1 0 #[.bool false,.slice none 0 0] 30 2 [.bool q6.b,.slice q6.a q6.n q6.c] #[.bool q6.b,.slice q6.a q6.n q6.c] ([(bk2,#[.bool p.b,.slice p.a p.n p.c],30),(bk1,#[.bool q6.b,.slice q6.a q6.n q6.c],30)]++owl tops Ct 27) rfl rfl rfl rfl sz30 hZ22 rfl rfl (zzF (by kernel_rfl)) (by kernel_rfl) (by kernel_rfl) (by kernel_rfl) (fun W13 hZ23=>?_))
    clear hZ22
    simp only [Stop,Act.put,zzC,zzD,zzE]
    go_wp2
    exact bodyPost_ret (v:=.tuple #[tops.v,.agg #[.bool q6.b,.slice q6.a q6.n q6.c]]) (results_tc 1 Tryz.results60 hZ23.es rfl ag30 sz30 (zzF (by kernel_rfl)) rfl rfl (by kernel_rfl)) rfl ⟨tops,q6,rfl,(by rw [HE.out,ez_q6]; rfl),hZ23.out 0 (f:=q6.is) rfl,fun _=>⟨T,⟨hn_tops,hZ23.sq hX (ER.stb _ _) hw_tops (fun p hp=>List.mem_append_right _ hp) (hn_tops ▸ hZ23.get 3 (f:=Fl 1 (ER (fun i=>c+(k - i)) T) k Ct) rfl)⟩,fun i hi=>HT.out i hi⟩,hZ23.below⟩
set_option maxRecDepth 100000 in
set_option maxHeartbeats 12800000 in
theorem lDet {X0:Nat→Prop} {w:World} (hX:NX X0 w) (a:Sl) {m e:Nat} {A:Nat→Nat→Int} (hm:m≤12) (he1:1≤e) (he:e≤200) (ha:Mt m (fun _=>m) A a X0 w) (bA:∀ i j,i < m→j < m→Sz e (A i j)):Calls Tryz.prog 25 #[a.v] w (PNX X0 (M.dt m A) w):=by
 have ha0:Mt m (fun _=>0+m) A a X0 w:=ha.congr (fun i _=>(Nat.zero_add m).symm) (fun _ _ _ _=>rfl)
 have hZ0:=zs_start hX
 have hZ1:=hZ0.more (f:=Mt m (fun _=>0+m) A a) (Mt.stb _ _ _ _) ha0
 clear hZ0
 go_enter Tryz.func25,Tryz.ntmps25
 go_wp2_with (refine zsa 30 #[.bool false,.slice none 0 0] (.agg #[.bool false,.slice none 0 0]) rfl rfl zv30 rfl hZ1 (fun bk1 X2 W1 hZ2=>?_))
 clear hZ1
 simp only [Stop,Act.put,zzC,zzD,zzE]
 go_wp2_with fail
 refine (lTri (c:=0) hZ2.nx a (by omega) (by omega) he1 he (hZ2.get 0 (f:=Mt m (fun _=>0+m) A a) rfl) (fun i j hi hj=>bA i j hi (by omega))).mono ?_
 rintro zz W2 ⟨st,pt,rfl,ez_pt,hi_pt,hT_,hB⟩
 have hZ3:=hZ2.later hB
 clear hB hZ2
 have hZ4:=hZ3.more (f:=pt.is) pt.stb hi_pt
 clear hZ3 hi_pt
 go_wp2_with (refine zsa 30 #[.bool false,.slice none 0 0] (.agg #[.bool false,.slice none 0 0]) rfl rfl zv30 rfl hZ4 (fun bk2 X5 W3 hZ5=>?_))
 clear hZ4
 simp only [Stop,Act.put,zzC,zzD,zzE]
 go_wp2_with (refine zss 30 (.tmp 4) (.tmp 9) 0 bk2 0 #[.bool false,.slice none 0 0] 30 2 [.bool pt.b,.slice pt.a pt.n pt.c] #[.bool pt.b,.slice pt.a pt.n pt.c] [(bk2,#[.bool pt.b,.slice pt.a pt.n pt.c],30),(bk1,#[.bool false,.slice none 0 0],30)] rfl rfl rfl rfl sz30 hZ5 rfl rfl (zzF (by kernel_rfl)) (by kernel_rfl) (by kernel_rfl) (by kernel_rfl) (fun W4 hZ6=>?_))
 clear hZ5
 simp only [Stop,Act.put,zzC,zzD,zzE]
 go_wp2_with (refine zso rfl (fun K hK=>wp_load 30 (.tmp 4) rfl bk2 0 2 #[.bool pt.b,.slice pt.a pt.n pt.c] #[.bool pt.b,.slice pt.a pt.n pt.c] 30 (hZ6.es.at' _ (zzG (i:=0) rfl)) rfl ag30 sz30 (zzF (by kernel_rfl)) (by kernel_rfl) (hK _ _ ?_)))
 simp only [Stop,Act.put,zzC,zzD,zzE]
 go_wp2_with (refine zss 30 (.tmp 2) (.tmp 10) 1 bk1 0 #[.bool false,.slice none 0 0] 30 2 [.bool pt.b,.slice pt.a pt.n pt.c] #[.bool pt.b,.slice pt.a pt.n pt.c] [(bk2,#[.bool pt.b,.slice pt.a pt.n pt.c],30),(bk1,#[.bool pt.b,.slice pt.a pt.n pt.c],30)] rfl rfl rfl rfl sz30 hZ6 rfl rfl (zzF (by kernel_rfl)) (by kernel_rfl) (by kernel_rfl) (by kernel_rfl) (fun W5 hZ7=>?_))
 clear hZ6
 simp only [Stop,Act.put,zzC,zzD,zzE]
 go_wp2
 exact bodyPost_ret (v:=pt.v) (results_cell 1 Tryz.results25 hZ7.es rfl ag30 sz30 (zzF (by kernel_rfl)) rfl (by kernel_rfl)) rfl ⟨pt,rfl,ez_pt,hZ7.out 0 (f:=pt.is) rfl,hZ7.below⟩
open Classical in
set_option maxRecDepth 100000 in
set_option maxHeartbeats 12800000 in
theorem lDefinite {X0:Nat→Prop} {w:World} (hX:NX X0 w) (a:Sl) {m e:Nat} {A:Nat→Nat→Int} (hm:m≤12) (he1:1≤e) (he:e≤200) (ha:Mt m (fun _=>m) A a X0 w) (bA:∀ i j,i < m→j < m→Sz e (A i j)):Calls Tryz.prog 24 #[a.v] w (PVal (.bool (decide (Sym m A∧∀ k,k < m→0 < M.dt (k+1) A))) w):=by
 by_cases hs:Sym m A
 ·
  have HSt:=Lib.hid hs
  rw [show decide (Sym m A∧∀ k,k < m→0 < M.dt (k+1) A)=decide (∀ k,k < m→0 < M.dt (k+1) A) from decide_eq_decide.2 ⟨fun h=>h.2,fun h=>⟨HSt.out,h⟩⟩]
  clear hs
  have hZ0:=zs_start hX
  have hZ1:=hZ0.more (f:=Mt m (fun _=>m) A a) (Mt.stb _ _ _ _) ha
  clear hZ0
  go_enter Tryz.func24,Tryz.ntmps24
  go_wp2_with fail
  refine ((lOwn hZ1.nx a hm (hZ1.get 0 (f:=Mt m (fun _=>m) A a) rfl)).mono (fun _ _ h=>by rw [decide_eq_true HSt.out] at h; exact h)).mono ?_
  rintro zz W1 ⟨rfl,hB⟩
  have hZ2:=hZ1.later hB
  clear hB hZ1
  go_wp2_with fail
  refine (lAbove hZ2.nx a hm he1 he (hZ2.get 0 (f:=Mt m (fun _=>m) A a) rfl) bA).mono ?_
  rintro zz W2 ⟨rfl,hB⟩
  have hZ3:=hZ2.later hB
  clear hB hZ2
  go_wp2
  go_ret
  exact ⟨rfl,hZ3.below⟩
 ·
  have HSf:=Lib.hid hs
  rw [show decide (Sym m A∧∀ k,k < m→0 < M.dt (k+1) A)=false from decide_eq_false (fun h=>HSf.out h.1)]
  clear hs
  have hZ0:=zs_start hX
  have hZ4:=hZ0.more (f:=Mt m (fun _=>m) A a) (Mt.stb _ _ _ _) ha
  clear hZ0
  go_enter Tryz.func24,Tryz.ntmps24
  go_wp2_with fail
  refine ((lOwn hZ4.nx a hm (hZ4.get 0 (f:=Mt m (fun _=>m) A a) rfl)).mono (fun _ _ h=>by rw [decide_eq_false HSf.out] at h; exact h)).mono ?_
  rintro zz W3 ⟨rfl,hB⟩
  have hZ5:=hZ4.later hB
  clear hB hZ4
  go_wp2
  go_ret
  exact ⟨rfl,hZ5.below⟩
set_option maxRecDepth 100000 in
set_option maxHeartbeats 12800000 in
theorem lTurned1 {X0:Nat→Prop} {w:World} (hX:NX X0 w) {n:Nat} {a:Sl} {B:Nat→Nat→Int} (bA i j:Nat) (hi:i < n) (hj:j < n) (cA:Cf bA #[a.v] 26 X0 w) (ha:Mt n (fun _=>n) B a X0 w):Calls Tryz.prog 88 #[.int .i64 ((i:Nat):Int),.int .i64 ((j:Nat):Int),.pointer (some ⟨bA,0,none⟩)] w (PNX X0 (B j i) w):=by
 have hZ0:=zs_start hX
 have hZ1:=hZ0.more (f:=Cf bA #[a.v] 26) (Cf.stb _ _ _) cA
 clear hZ0
 have hZ2:=hZ1.more (f:=Mt n (fun _=>n) B a) (Mt.stb _ _ _ _) ha
 clear hZ1
 go_enter Tryz.func88,Tryz.ntmps88
 go_wp2_with (refine zsa 30 #[.bool false,.slice none 0 0] (.agg #[.bool false,.slice none 0 0]) rfl rfl zv30 rfl hZ2 (fun bk1 X3 W1 hZ3=>?_))
 clear hZ2
 simp only [Stop,Act.put,zzC,zzD,zzE]
 go_wp2_with (refine zso rfl (fun K hK=>wp_load1 (v:=a.v) 26 (.tmp 2) rfl bA 0 #[a.v] 26 (hZ3.get 1 (f:=Cf bA #[a.v] 26) rfl).1 rfl ag26 (by kernel_rfl) (hK _ _ ?_)))
 simp only [Stop,Act.put,zzC,zzD,zzE]
 go_wp2_with (refine zso rfl (fun K hK=>wp_ixs 26 (.tmp 6) (.tmp 7) a j 1 27 rfl rfl rfl (by kernel_rfl) sz27 (fun h=>((hZ3.get 0 (f:=Mt n (fun _=>n) B a) rfl).sq.nil h).1) ((hZ3.get 0 (f:=Mt n (fun _=>n) B a) rfl).n ▸ (by omega)) (hK _ _ ?_)))
 simp only [Stop,Act.put,zzC,zzD,zzE]
 go_wp2_with (refine zso rfl (fun K hK=>wp_ldm 27 (.tmp 8) a j n (fun _=>n) B rfl rfl (hZ3.get 0 (f:=Mt n (fun _=>n) B a) rfl) (by omega) ag27 (fun s1 hi_s1=>hK _ _ ?_)))
 simp only [Stop,Act.put,zzC,zzD,zzE]
 have hZ4:=hZ3.more (f:=Ls n (B j) s1) (Ls.stb _ _ _) hi_s1
 clear hZ3 hi_s1
 go_wp2_with (refine zso rfl (fun K hK=>wp_ixs 27 (.tmp 9) (.tmp 10) s1 i 2 30 rfl rfl rfl (by kernel_rfl) sz30 (fun h=>((hZ4.get 0 (f:=Ls n (B j) s1) rfl).sq.nil h).1) ((hZ4.get 0 (f:=Ls n (B j) s1) rfl).n ▸ (by omega)) (hK _ _ ?_)))
 simp only [Stop,Act.put,zzC,zzD,zzE]
 go_wp2_with (refine zso rfl (fun K hK=>wp_ldn 30 (.tmp 11) s1 i n (B j) rfl rfl (hZ4.get 0 (f:=Ls n (B j) s1) rfl) (by omega) ag30 sz30 (fun q2 ez_q2 hi_q2=>hK _ _ ?_)))
 simp only [Stop,Act.put,zzC,zzD,zzE]
 have hZ5:=hZ4.more (f:=q2.is) q2.stb hi_q2
 clear hZ4 hi_q2
 go_wp2_with (refine zss 30 (.tmp 5) (.tmp 12) 0 bk1 0 #[.bool false,.slice none 0 0] 30 2 [.bool q2.b,.slice q2.a q2.n q2.c] #[.bool q2.b,.slice q2.a q2.n q2.c] [(bk1,#[.bool q2.b,.slice q2.a q2.n q2.c],30)] rfl rfl rfl rfl sz30 hZ5 rfl rfl (zzF (by kernel_rfl)) (by kernel_rfl) (by kernel_rfl) (by kernel_rfl) (fun W2 hZ6=>?_))
 clear hZ5
 simp only [Stop,Act.put,zzC,zzD,zzE]
 go_wp2
 exact bodyPost_ret (v:=q2.v) (results_cell 0 Tryz.results88 hZ6.es rfl ag30 sz30 (zzF (by kernel_rfl)) rfl (by kernel_rfl)) rfl ⟨q2,rfl,ez_q2,hZ6.out 0 (f:=q2.is) rfl,hZ6.below⟩
set_option maxRecDepth 100000 in
set_option maxHeartbeats 12800000 in
theorem lTurned {X0:Nat→Prop} {w:World} (hX:NX X0 w) (a:Sl) {n:Nat} {B:Nat→Nat→Int} (hn:n≤1000) (ha:Mt n (fun _=>n) B a X0 w):Calls Tryz.prog 73 #[a.v] w (PMX X0 n (fun _=>n) (fun i j=>B j i) w):=by
 have hZ0:=zs_start hX
 have hZ1:=hZ0.more (f:=Mt n (fun _=>n) B a) (Mt.stb _ _ _ _) ha
 clear hZ0
 go_enter Tryz.func73,Tryz.ntmps73
 go_wp2_with (refine zsb 26 (.tmp 0) #[a.v] rfl rfl rfl hZ1 (fun bk1 X2 W1 hZ2=>?_))
 clear hZ1
 simp only [Stop,Act.put,zzC,zzD,zzE]
 have hZ3:=hZ2.release hX
 clear hZ2
 go_wp2_with (refine zso rfl (fun K hK=>wp_load1 (v:=a.v) 26 (.tmp 1) rfl bk1 0 #[a.v] 26 (hZ3.get 0 (f:=Cf bk1 #[a.v] 26) rfl).1 rfl ag26 (by kernel_rfl) (hK _ _ ?_)))
 simp only [Stop,Act.put,zzC,zzD,zzE]
 go_wp2_with (refine zso rfl (fun K hK=>wp_lenq (.tmp 3) 26 27 a rfl (by kernel_rfl) rfl (hZ3.get 1 (f:=Mt n (fun _=>n) B a) rfl).n (hK _ _ ?_)))
 simp only [Stop,Act.put,zzC,zzD,zzE]
 go_wp2_with (refine zso rfl (fun K hK=>wp_mkf 88 #[.tmp 1] #[.pointer (some ⟨bk1,0,none⟩)] rfl (map1 rfl) (hK _ _ ?_)))
 simp only [Stop,Act.put,zzC,zzD,zzE]
 go_wp2_with fail
 refine (lSquare hZ3.nx n 88 #[.pointer (some ⟨bk1,0,none⟩)] (fun i j=>B j i) (by omega) ⟨fun _ _=>rfl,fun i j hi hj X' W' hx he hb=>(show Calls _ _ #[.int .i64 ((i:Nat):Int),.int .i64 ((j:Nat):Int),.pointer (some ⟨bk1,0,none⟩)] _ _ from lTurned1 hx bk1 i j hi hj (Cf.stb _ _ _ _ _ _ _ he (hZ3.get 0 (f:=Cf bk1 #[a.v] 26) rfl)) (Mt.stb _ _ _ _ _ _ _ _ he (hZ3.get 1 (f:=Mt n (fun _=>n) B a) rfl)))⟩).mono ?_
 rintro zz W2 ⟨s1,rfl,hi_s1,hB⟩
 have hZ4:=hZ3.later hB
 clear hB hZ3
 have hZ5:=hZ4.more (f:=Mt n (fun _=>n) (fun i j=>B j i) s1) (Mt.stb _ _ _ _) hi_s1
 clear hZ4 hi_s1
 go_wp2
 go_ret
 exact ⟨s1,rfl,hZ5.out 0 (f:=Mt n (fun _=>n) (fun i j=>B j i) s1) rfl,hZ5.below⟩
set_option maxRecDepth 100000 in
set_option maxHeartbeats 12800000 in
theorem lApply1 {X0:Nat→Prop} {w:World} (hX:NX X0 w) {n e:Nat} {a xs:Sl} {B:Nat→Nat→Int} {x:Nat→Int} (bA bx i:Nat) (hi:i < n) (cA:Cf bA #[a.v] 26 X0 w) (cX:Cf bx #[xs.v] 27 X0 w) (ha:Mt n (fun _=>n) B a X0 w) (hxs:Ls n x xs X0 w) (bB:∀ i k,i < n→k < n→Sz e (B i k)) (bX:∀ k,k < n→Sz e (x k)) (he_:e≤1000000) (hn:n≤1000):Calls Tryz.prog 80 #[.int .i64 ((i:Nat):Int),.pointer (some ⟨bA,0,none⟩),.pointer (some ⟨bx,0,none⟩)] w (PNX X0 (M.mulv n B x i) w):=by
 have hZ0:=zs_start hX
 have hZ1:=hZ0.more (f:=Cf bA #[a.v] 26) (Cf.stb _ _ _) cA
 clear hZ0
 have hZ2:=hZ1.more (f:=Cf bx #[xs.v] 27) (Cf.stb _ _ _) cX
 clear hZ1
 have hZ3:=hZ2.more (f:=Mt n (fun _=>n) B a) (Mt.stb _ _ _ _) ha
 clear hZ2
 have hZ4:=hZ3.more (f:=Ls n x xs) (Ls.stb _ _ _) hxs
 clear hZ3
 go_enter Tryz.func80,Tryz.ntmps80
 go_wp2_with (refine zsa 30 #[.bool false,.slice none 0 0] (.agg #[.bool false,.slice none 0 0]) rfl rfl zv30 rfl hZ4 (fun bk1 X5 W1 hZ5=>?_))
 clear hZ4
 simp only [Stop,Act.put,zzC,zzD,zzE]
 go_wp2
 have hM:Zs w W1.drew X0 X5 [(bk1,#[.bool false,.slice none 0 0],30)] [Ls n x xs,Mt n (fun _=>n) B a,Cf bx #[xs.v] 27,Cf bA #[a.v] 26]∧Below W1.heap.size W1 W1.drew:=⟨hZ5.later (Below.refl _ _).drew,(Below.refl _ _).drew⟩
 clear hZ5
 have hVS1:∀ k,k ∈ ([veq (a.v),veq (.int .i64 (((i:Nat):Int))),veq ((a.at 1 i)),vls n (B i),veq (xs.v),vnum (M.sm n (fun k=>B i k*x k))]:List VF)→VSt k:=by
  intro k hk
  simp only [List.mem_cons,List.not_mem_nil,or_false] at hk
  rcases hk with rfl | rfl | rfl | rfl | rfl | rfl
  ·
   exact veq_st _
  ·
   exact veq_st _
  ·
   exact veq_st _
  ·
   exact vls_st _ _
  ·
   exact veq_st _
  ·
   exact vnum_st _
 refine wp_region_q 6 [some 5,some 6,some 7,some 8,some 9,some 10] (vzL [veq (a.v),veq (.int .i64 (((i:Nat):Int))),veq ((a.at 1 i)),vls n (B i),veq (xs.v),vnum (M.sm n (fun k=>B i k*x k))] X5) (fun W=>Zs w W X0 X5 [(bk1,#[.bool false,.slice none 0 0],30)] [Ls n x xs,Mt n (fun _=>n) B a,Cf bx #[xs.v] 27,Cf bA #[a.v] 26]∧Below W1.heap.size W1 W) (by kernel_rfl) (by kernel_rfl) (by rfl) (by decide) (by rfl) hM ?_ ?_
 ·
  intro i hl hi LL uu ww aa hLi hLc hJ hd hev hin hold
  clear hM
  obtain ⟨hJ,hJb⟩:=hJ
  obtain rfl | rfl | rfl | rfl | rfl | rfl:i=0∨i=1∨i=2∨i=3∨i=4∨i=5:=by omega
  ·
   exact .inr ⟨rfl,fun K' hK=>wp_load1 (v:=a.v) 26 (.tmp 1) rfl bA 0 #[a.v] 26 (hJ.get 3 (f:=Cf bA #[a.v] 26) rfl).1 (zet ((hev 1 (by decide)).trans rfl)) ag26 (by kernel_rfl) (hK _ _ ⟨hJ,hJb⟩ rfl zvs)⟩
  ·
   exact .inr ⟨rfl,fun K' hK=>wp_move (.tmp 0) rfl (zet ((hev 0 (by decide)).trans rfl)) (hK _ _ ⟨hJ,hJb⟩ rfl zvs)⟩
  ·
   exact .inr ⟨rfl,fun K' hK=>wp_ixs 26 (.tmp 5) (.tmp 6) a i 1 27 rfl (zet ((hin 0 5 rfl).trans (congrArg some (show uu 0=a.v from hd 0 (by decide) (by kernel_rfl))))) (zet ((hin 1 6 rfl).trans (congrArg some (show uu 1=.int .i64 (((i:Nat):Int)) from hd 1 (by decide) (by kernel_rfl))))) (by kernel_rfl) sz27 (fun h=>((hJ.get 1 (f:=Mt n (fun _=>n) B a) rfl).sq.nil h).1) ((hJ.get 1 (f:=Mt n (fun _=>n) B a) rfl).n ▸ (by omega)) (hK _ _ ⟨hJ,hJb⟩ rfl zvs)⟩
  ·
   exact .inr ⟨rfl,fun K' hK=>wp_ldm 27 (.tmp 7) a i n (fun _=>n) B rfl (zet ((hin 2 7 rfl).trans (congrArg some (show uu 2=(a.at 1 i) from hd 2 (by decide) (by kernel_rfl))))) (hJ.get 1 (f:=Mt n (fun _=>n) B a) rfl) (by omega) ag27 (fun s1 hi_s1=>hK _ _ ⟨hJ,hJb⟩ ⟨s1,rfl,hi_s1⟩ zvs)⟩
  ·
   exact .inr ⟨rfl,fun K' hK=>wp_load1 (v:=xs.v) 27 (.tmp 2) rfl bx 0 #[xs.v] 27 (hJ.get 2 (f:=Cf bx #[xs.v] 27) rfl).1 (zet ((hev 2 (by decide)).trans rfl)) ag27 (by kernel_rfl) (hK _ _ ⟨hJ,hJb⟩ rfl zvs)⟩
  ·
   obtain ⟨s1,e3,hi_s1⟩:=(show (vls n (B i)) (uu 3) X5 ww from hd 3 (by decide) (by kernel_rfl))
   replace hJ:=hJ.more (f:=Ls n (B i) s1) (Ls.stb _ _ _) hi_s1
   refine .inr ⟨rfl,fun K' hK=>?_⟩
   refine zcz (.func 68) #[.tmp 8,.tmp 9] #[27,27] 68 #[] #[s1.v,xs.v] _ rfl rfl (map2 (zet ((hin 3 8 rfl).trans (congrArg some e3))) (zet ((hin 4 9 rfl).trans (congrArg some (show uu 4=xs.v from hd 4 (by decide) (by kernel_rfl)))))) rfl (fun _ _=>rfl) (lInner hJ.nx s1 xs (hJ.get 0 (f:=Ls n (B i) s1) rfl) (hJ.get 1 (f:=Ls n x xs) rfl) (by omega) (fun k hk=>bB i k (by omega) hk) (fun k hk=>bX k hk) (by omega) (by omega)) ?_
   rintro zz ww2 ⟨q2,rfl,ez_q2,hi_q2,hB⟩
   exact ⟨_,rfl,hK _ _ ⟨(hJ.only [Ls n x xs,Mt n (fun _=>n) B a,Cf bx #[xs.v] 27,Cf bA #[a.v] 26] (by simp)).later hB,hJb.trans (hB.mono hJb.size)⟩ ⟨q2,rfl,ez_q2,hi_q2⟩ (zvl hVS1 hB)⟩
 clear hM
 intro uu W2 hZ6p hd
 obtain ⟨hZ6,hb1⟩:=hZ6p
 have e_0:uu 0=a.v:=hd 0 (by decide)
 have e_1:uu 1=.int .i64 (((i:Nat):Int)):=hd 1 (by decide)
 have e_2:uu 2=(a.at 1 i):=hd 2 (by decide)
 obtain ⟨s1,e_3,hi_s1⟩:=(show (vls n (B i)) (uu 3) X5 W2 from hd 3 (by decide))
 have e_4:uu 4=xs.v:=hd 4 (by decide)
 obtain ⟨q2,e_5,ez_q2,hi_q2⟩:=(show (vnum (M.sm n (fun k=>B i k*x k))) (uu 5) X5 W2 from hd 5 (by decide))
 clear hd hVS1
 simp only [layS,Act.put,zzC,zzD,zzE,Nat.zero_add,Nat.reduceAdd,List.drop_succ_cons,List.drop_zero,List.drop_nil,e_0,e_1,e_2,e_3,e_4,e_5]
 clear e_0 e_1 e_2 e_3 e_4 e_5
 have hZ7:=hZ6.more (f:=Ls n (B i) s1) (Ls.stb _ _ _) hi_s1
 clear hZ6 hi_s1
 have hZ8:=hZ7.more (f:=q2.is) q2.stb hi_q2
 clear hZ7 hi_q2
 go_wp2_with (refine zss 30 (.tmp 4) (.tmp 10) 0 bk1 0 #[.bool false,.slice none 0 0] 30 2 [.bool q2.b,.slice q2.a q2.n q2.c] #[.bool q2.b,.slice q2.a q2.n q2.c] [(bk1,#[.bool q2.b,.slice q2.a q2.n q2.c],30)] rfl rfl rfl rfl sz30 hZ8 rfl rfl (zzF (by kernel_rfl)) (by kernel_rfl) (by kernel_rfl) (by kernel_rfl) (fun W3 hZ9=>?_))
 clear hZ8
 simp only [Stop,Act.put,zzC,zzD,zzE]
 go_wp2
 exact bodyPost_ret (v:=q2.v) (results_cell 0 Tryz.results80 hZ9.es rfl ag30 sz30 (zzF (by kernel_rfl)) rfl (by kernel_rfl)) rfl ⟨q2,rfl,ez_q2,hZ9.out 0 (f:=q2.is) rfl,hZ9.below⟩
set_option maxRecDepth 100000 in
set_option maxHeartbeats 12800000 in
theorem lApply {X0:Nat→Prop} {w:World} (hX:NX X0 w) (a xs:Sl) {n e:Nat} {B:Nat→Nat→Int} {x:Nat→Int} (ha:Mt n (fun _=>n) B a X0 w) (hxs:Ls n x xs X0 w) (bB:∀ i k,i < n→k < n→Sz e (B i k)) (bX:∀ k,k < n→Sz e (x k)) (he_:e≤1000000) (hn:n≤1000):Calls Tryz.prog 48 #[a.v,xs.v] w (PLX X0 n (M.mulv n B x) w):=by
 have hZ0:=zs_start hX
 have hZ1:=hZ0.more (f:=Mt n (fun _=>n) B a) (Mt.stb _ _ _ _) ha
 clear hZ0
 have hZ2:=hZ1.more (f:=Ls n x xs) (Ls.stb _ _ _) hxs
 clear hZ1
 go_enter Tryz.func48,Tryz.ntmps48
 go_wp2_with (refine zsb 26 (.tmp 0) #[a.v] rfl rfl rfl hZ2 (fun bk1 X3 W1 hZ3=>?_))
 clear hZ2
 simp only [Stop,Act.put,zzC,zzD,zzE]
 go_wp2_with (refine zsb 27 (.tmp 1) #[xs.v] rfl rfl rfl hZ3 (fun bk2 X4 W2 hZ4=>?_))
 clear hZ3
 simp only [Stop,Act.put,zzC,zzD,zzE]
 have hZ5:=hZ4.release hX
 clear hZ4
 have hZ6:=hZ5.release hX
 clear hZ5
 go_wp2_with (refine zso rfl (fun K hK=>wp_load1 (v:=a.v) 26 (.tmp 2) rfl bk1 0 #[a.v] 26 (hZ6.get 0 (f:=Cf bk1 #[a.v] 26) rfl).1 rfl ag26 (by kernel_rfl) (hK _ _ ?_)))
 simp only [Stop,Act.put,zzC,zzD,zzE]
 go_wp2_with (refine zso rfl (fun K hK=>wp_lenq (.tmp 5) 26 27 a rfl (by kernel_rfl) rfl (hZ6.get 3 (f:=Mt n (fun _=>n) B a) rfl).n (hK _ _ ?_)))
 simp only [Stop,Act.put,zzC,zzD,zzE]
 go_wp2_with (refine zso rfl (fun K hK=>wp_mkf 80 #[.tmp 2,.tmp 3] #[.pointer (some ⟨bk1,0,none⟩),.pointer (some ⟨bk2,0,none⟩)] rfl (map2 rfl rfl) (hK _ _ ?_)))
 simp only [Stop,Act.put,zzC,zzD,zzE]
 go_wp2_with fail
 refine (lMadeN hZ6.nx n 80 #[.pointer (some ⟨bk1,0,none⟩),.pointer (some ⟨bk2,0,none⟩)] (M.mulv n B x) (by omega) ⟨fun _ _=>rfl,fun i hi X' W' hx he hb=>(show Calls _ _ #[.int .i64 ((i:Nat):Int),.pointer (some ⟨bk1,0,none⟩),.pointer (some ⟨bk2,0,none⟩)] _ _ from lApply1 hx bk1 bk2 i hi (Cf.stb _ _ _ _ _ _ _ he (hZ6.get 0 (f:=Cf bk1 #[a.v] 26) rfl)) (Cf.stb _ _ _ _ _ _ _ he (hZ6.get 1 (f:=Cf bk2 #[xs.v] 27) rfl)) (Mt.stb _ _ _ _ _ _ _ _ he (hZ6.get 3 (f:=Mt n (fun _=>n) B a) rfl)) (Ls.stb _ _ _ _ _ _ _ he (hZ6.get 2 (f:=Ls n x xs) rfl)) bB bX he_ hn)⟩).mono ?_
 rintro zz W3 ⟨s1,rfl,hi_s1,hB⟩
 have hZ7:=hZ6.later hB
 clear hB hZ6
 have hZ8:=hZ7.more (f:=Ls n (M.mulv n B x) s1) (Ls.stb _ _ _) hi_s1
 clear hZ7 hi_s1
 go_wp2
 go_ret
 exact ⟨s1,rfl,hZ8.out 0 (f:=Ls n (M.mulv n B x) s1) rfl,hZ8.below⟩
set_option maxRecDepth 100000 in
set_option maxHeartbeats 12800000 in
theorem lQuad {X0:Nat→Prop} {w:World} (hX:NX X0 w) (a xs:Sl) {n e:Nat} {B:Nat→Nat→Int} {x:Nat→Int} (ha:Mt n (fun _=>n) B a X0 w) (hxs:Ls n x xs X0 w) (bB:∀ i k,i < n→k < n→Sz e (B i k)) (bX:∀ k,k < n→Sz e (x k)) (he_:e≤400000) (hn:n≤1000):Calls Tryz.prog 34 #[a.v,xs.v] w (PNX X0 (M.sm n (fun k=>x k*M.mulv n B x k)) w):=by
 have hZ0:=zs_start hX
 have hZ1:=hZ0.more (f:=Mt n (fun _=>n) B a) (Mt.stb _ _ _ _) ha
 clear hZ0
 have hZ2:=hZ1.more (f:=Ls n x xs) (Ls.stb _ _ _) hxs
 clear hZ1
 go_enter Tryz.func34,Tryz.ntmps34
 go_wp2_with (refine zsa 30 #[.bool false,.slice none 0 0] (.agg #[.bool false,.slice none 0 0]) rfl rfl zv30 rfl hZ2 (fun bk1 X3 W1 hZ3=>?_))
 clear hZ2
 simp only [Stop,Act.put,zzC,zzD,zzE]
 go_wp2_with fail
 refine (lApply hZ3.nx a xs (hZ3.get 1 (f:=Mt n (fun _=>n) B a) rfl) (hZ3.get 0 (f:=Ls n x xs) rfl) (fun i k hi hk=>(fun k hk=>bB i k (by omega) hk) k hk) (fun k hk=>bX k hk) (by omega) (by omega)).mono ?_
 rintro zz W2 ⟨s1,rfl,hi_s1,hB⟩
 have hZ4:=hZ3.later hB
 clear hB hZ3
 have hZ5:=hZ4.more (f:=Ls n (M.mulv n B x) s1) (Ls.stb _ _ _) hi_s1
 clear hZ4 hi_s1
 go_wp2_with fail
 refine (lInner hZ5.nx xs s1 (hZ5.get 1 (f:=Ls n x xs) rfl) (hZ5.get 0 (f:=Ls n (M.mulv n B x) s1) rfl) (by omega) (fun k hk=>(bX k hk).mono (by omega)) (fun i hi=>sm_sz (fun k hk=>Sz.mul (bB i k hi hk) (bX k hk))) (by omega) (by omega)).mono ?_
 rintro zz W3 ⟨q2,rfl,ez_q2,hi_q2,hB⟩
 have hZ6:=hZ5.later hB
 clear hB hZ5
 have hZ7:=hZ6.more (f:=q2.is) q2.stb hi_q2
 clear hZ6 hi_q2
 go_wp2_with (refine zss 30 (.tmp 4) (.tmp 9) 0 bk1 0 #[.bool false,.slice none 0 0] 30 2 [.bool q2.b,.slice q2.a q2.n q2.c] #[.bool q2.b,.slice q2.a q2.n q2.c] [(bk1,#[.bool q2.b,.slice q2.a q2.n q2.c],30)] rfl rfl rfl rfl sz30 hZ7 rfl rfl (zzF (by kernel_rfl)) (by kernel_rfl) (by kernel_rfl) (by kernel_rfl) (fun W4 hZ8=>?_))
 clear hZ7
 simp only [Stop,Act.put,zzC,zzD,zzE]
 go_wp2
 exact bodyPost_ret (v:=q2.v) (results_cell 0 Tryz.results34 hZ8.es rfl ag30 sz30 (zzF (by kernel_rfl)) rfl (by kernel_rfl)) rfl ⟨q2,rfl,ez_q2,hZ8.out 0 (f:=q2.is) rfl,hZ8.below⟩
end Go.Proofs.YtjclllindbfmhabGreatDoor
