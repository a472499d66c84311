/- Parts of the proof. -/
import Derived.Test.YtjclllindbfmhabGreatDoorHs0
import Derived.Test.YtjclllindbfmhabGreatDoorHs23
set_option linter.unusedSimpArgs false
set_option linter.unusedVariables false
namespace Go.Proofs.YtjclllindbfmhabGreatDoor
/- Package lin: the walks of aboveZero, isOwnTurned, Definite. No statement of the seat is proved here. -/
open Go Go.RowKit
theorem sgnI_pos {z:Int}:(sgnI z≤0)=(z≤0):=by
 refine propext ?_
 unfold sgnI
 split
 ·
  omega
 ·
  split <;> omega
/-- A slice's length. -/
def sLen:Value→Nat
 | .slice _ n _=>n
 | _=>0
open Classical in
set_option maxRecDepth 100000 in
set_option maxHeartbeats 12800000 in
theorem lAbove {X0:Nat→Prop} {w:World} (hX:NX X0 w) (a:Sl) {m e:Nat} {A:Nat→Nat→Int} (hm:m≤12) (he1:1≤e) (he:e≤200) (ha:Mt m (fun _=>m) A a X0 w) (bA:∀ i j,i < m→j < m→Sz e (A i j)):Calls Tryz.prog 59 #[a.v] w (PVal (.bool (decide (∀ k,k < m→0 < M.dt (k+1) A))) w):=by
 have hZ0:=zs_start hX
 have hZ1:=hZ0.more (f:=Mt m (fun _=>m) A a) (Mt.stb _ _ _ _) ha
 clear hZ0
 go_enter Tryz.func59,Tryz.ntmps59
 go_wp2_with fail
 refine (zOf hZ1.nx (by omega) (by omega)).mono ?_
 rintro zz W1 ⟨q1,rfl,ez_q1,hi_q1,hB⟩
 have hZ2:=hZ1.later hB
 clear hB hZ1
 have hZ3:=hZ2.more (f:=q1.is) q1.stb hi_q1
 clear hZ2 hi_q1
 go_wp2_with (refine zsa 30 #[.bool false,.slice none 0 0] (.agg #[.bool false,.slice none 0 0]) rfl rfl zv30 rfl hZ3 (fun bk1 X4 W2 hZ4=>?_))
 clear hZ3
 simp only [Stop,Act.put,zzC,zzD,zzE]
 go_wp2_with (refine zss 30 (.tmp 3) (.tmp 5) 0 bk1 0 #[.bool false,.slice none 0 0] 30 2 [.bool q1.b,.slice q1.a q1.n q1.c] #[.bool q1.b,.slice q1.a q1.n q1.c] [(bk1,#[.bool q1.b,.slice q1.a q1.n q1.c],30)] rfl rfl rfl rfl sz30 hZ4 rfl rfl (zzF (by kernel_rfl)) (by kernel_rfl) (by kernel_rfl) (by kernel_rfl) (fun W3 hZ5=>?_))
 clear hZ4
 simp only [Stop,Act.put,zzC,zzD,zzE]
 go_wp2
 go_loopw [0] (fun rv wr=>∃ (k r:Nat) (rows:Sl) (p:NL) (B:Nat→Nat→Int) (d:Int) (X:Nat→Prop),rv=rows.v∧p.z=d∧Ld m e A k r B d∧(∀ i,i < k→0 < M.dt (i+1) A)∧Zs w wr X0 X [(bk1,#[.bool p.b,.slice p.a p.n p.c],30)] [p.is,Mt r (fun _=>r) B rows]) (fun rv _=>sLen rv)
 case atStart=>exact ⟨0,m,a,q1,A,1,_,rfl,ez_q1,ld_start he1 bA,fun i hi=>absurd hi (Nat.not_lt_zero i),hZ5⟩
 case round =>
  obtain ⟨k,r,rows,p,B,d,X,rfl,ez_p,hI,hk,hZ⟩:=hrel
  have hIl:=hI.len
  have hIs:=hI.szd
  have heb:eb e k≤830000:=eb_le he (by omega)
  have hd0:d ≠ 0:=hI.dv.1
  have HI:=Lib.hid hI
  have HD:=Lib.hid hd0
  have HS:=Lib.hid hIs
  have HK:=Lib.hid hk
  clear hI hd0 hIs hk
  by_cases hr:0 < r
  ·
   obtain ⟨r,rfl⟩:∃ s,r=s+1:=⟨r - 1,by omega⟩
   have hn0:rows.n=(r+1):=(hZ.get 1 (f:=Mt (r+1) (fun _=>r+1) B rows) rfl).n
   by_cases hz:0 < B 0 0
   ·
    have HZ:=Lib.hid hz
    clear hz
    go_wp2_with (refine zso rfl (fun K hK=>wp_lenq (.tmp 6) 25 27 rows rfl (by kernel_rfl) rfl (hZ.get 1 (f:=Mt (r+1) (fun _=>r+1) B rows) rfl).n (hK _ _ ?_)))
    simp only [Stop,Act.put,zzC,zzD,zzE]
    go_wp2_with (refine zso rfl (fun K hK=>wp_gtri (.tmp 7) (.const (.int .i64 0)) rfl rfl rfl (r:=true) (decide_eq_true (by omega)) (hK _ _ ?_)))
    simp only [Stop,Act.put,zzC,zzD,zzE]
    go_wp2_with (refine zso rfl (fun K hK=>wp_ixs 25 (.tmp 9) (.const (.int .i64 0)) rows 0 1 27 rfl rfl rfl (by kernel_rfl) sz27 (fun h=>((hZ.get 1 (f:=Mt (r+1) (fun _=>r+1) B rows) rfl).sq.nil h).1) ((hZ.get 1 (f:=Mt (r+1) (fun _=>r+1) B rows) rfl).n ▸ (by omega)) (hK _ _ ?_)))
    simp only [Stop,Act.put,zzC,zzD,zzE]
    go_wp2_with (refine zso rfl (fun K hK=>wp_ldm 27 (.tmp 10) rows 0 ((r+1)) (fun _=>r+1) B rfl rfl (hZ.get 1 (f:=Mt (r+1) (fun _=>r+1) B rows) rfl) (by omega) ag27 (fun s2 hi_s2=>hK _ _ ?_)))
    simp only [Stop,Act.put,zzC,zzD,zzE]
    have hZ6:=hZ.more (f:=Ls (r+1) (B 0) s2) (Ls.stb _ _ _) hi_s2
    clear hZ hi_s2
    go_wp2_with (refine zso rfl (fun K hK=>wp_ixs 27 (.tmp 11) (.const (.int .i64 0)) s2 0 2 30 rfl rfl rfl (by kernel_rfl) sz30 (fun h=>((hZ6.get 0 (f:=Ls (r+1) (B 0) s2) rfl).sq.nil h).1) ((hZ6.get 0 (f:=Ls (r+1) (B 0) s2) rfl).n ▸ (by omega)) (hK _ _ ?_)))
    simp only [Stop,Act.put,zzC,zzD,zzE]
    go_wp2_with (refine zso rfl (fun K hK=>wp_ldn 30 (.tmp 12) s2 0 (r+1) (B 0) rfl rfl (hZ6.get 0 (f:=Ls (r+1) (B 0) s2) rfl) (by omega) ag30 sz30 (fun q3 ez_q3 hi_q3=>hK _ _ ?_)))
    simp only [Stop,Act.put,zzC,zzD,zzE]
    have hZ7:=hZ6.more (f:=q3.is) q3.stb hi_q3
    clear hZ6 hi_q3
    go_wp2_with (refine zsa 30 #[.bool false,.slice none 0 0] (.agg #[.bool false,.slice none 0 0]) rfl rfl zv30 rfl hZ7 (fun bk2 X8 W4 hZ8=>?_))
    clear hZ7
    simp only [Stop,Act.put,zzC,zzD,zzE]
    go_wp2_with (refine zss 30 (.tmp 4) (.tmp 13) 0 bk2 0 #[.bool false,.slice none 0 0] 30 2 [.bool q3.b,.slice q3.a q3.n q3.c] #[.bool q3.b,.slice q3.a q3.n q3.c] [(bk2,#[.bool q3.b,.slice q3.a q3.n q3.c],30),(bk1,#[.bool p.b,.slice p.a p.n p.c],30)] rfl rfl rfl rfl sz30 hZ8 rfl rfl (zzF (by kernel_rfl)) (by kernel_rfl) (by kernel_rfl) (by kernel_rfl) (fun W5 hZ9=>?_))
    clear hZ8
    simp only [Stop,Act.put,zzC,zzD,zzE]
    go_wp2_with (refine zso rfl (fun K hK=>wp_load 30 (.tmp 4) rfl bk2 0 2 #[.bool q3.b,.slice q3.a q3.n q3.c] #[.bool q3.b,.slice q3.a q3.n q3.c] 30 (hZ9.es.at' _ (zzG (i:=0) rfl)) rfl ag30 sz30 (zzF (by kernel_rfl)) (by kernel_rfl) (hK _ _ ?_)))
    simp only [Stop,Act.put,zzC,zzD,zzE]
    go_wp2_with fail
    refine (zSign (hZ9.get 0 (f:=q3.is) rfl) ez_q3).mono ?_
    rintro zz W6 ⟨rfl,hB⟩
    have hZ10:=hZ9.later hB
    clear hB hZ9
    go_wp2_with (refine zso rfl (fun K hK=>wp_leqi (.tmp 15) (.const (.int .i64 0)) rfl rfl rfl (r:=false) (decide_eq_false (by rw [sgnI_pos]; have:=HZ.out; omega)) (hK _ _ ?_)))
    simp only [Stop,Act.put,zzC,zzD,zzE]
    go_wp2
    have hM:Zs w W6.drew X0 X8 [(bk2,#[.bool q3.b,.slice q3.a q3.n q3.c],30),(bk1,#[.bool p.b,.slice p.a p.n p.c],30)] [q3.is,Ls (r+1) (B 0) s2,p.is,Mt (r+1) (fun _=>r+1) B rows]∧Below W6.heap.size W6 W6.drew:=⟨hZ10.later (Below.refl _ _).drew,(Below.refl _ _).drew⟩
    clear hZ10
    have hVS6:∀ k,k ∈ ([veq (rows.v),veq (p.v),vmt r (fun _=>r) (M.cnd B 0 d),veq (q3.v),vmt r (fun _=>r) (M.cnd B 0 d)]:List VF)→VSt k:=by
     intro k hk
     simp only [List.mem_cons,List.not_mem_nil,or_false] at hk
     rcases hk with rfl | rfl | rfl | rfl | rfl
     ·
      exact veq_st _
     ·
      exact veq_st _
     ·
      exact vmt_st _ _ _
     ·
      exact veq_st _
     ·
      exact vmt_st _ _ _
    refine wp_region_q 5 [some 17,some 18,some 19,some 20,some 0] (vzL [veq (rows.v),veq (p.v),vmt r (fun _=>r) (M.cnd B 0 d),veq (q3.v),vmt r (fun _=>r) (M.cnd B 0 d)] X8) (fun W=>Zs w W X0 X8 [(bk2,#[.bool q3.b,.slice q3.a q3.n q3.c],30),(bk1,#[.bool p.b,.slice p.a p.n p.c],30)] [q3.is,Ls (r+1) (B 0) s2,p.is,Mt (r+1) (fun _=>r+1) B rows]∧Below W6.heap.size W6 W) (by kernel_rfl) (by kernel_rfl) (by rfl) (by decide) (by rfl) hM ?_ ?_
    ·
     intro i hl hi LL uu ww aa hLi hLc hJ hd hev hin hold
     clear hM
     obtain ⟨hJ,hJb⟩:=hJ
     obtain rfl | rfl | rfl | rfl | rfl:i=0∨i=1∨i=2∨i=3∨i=4:=by omega
     ·
      have hL0:LL 4=false:=by
       cases q4:LL 4 with
       | false=>rfl
       | true =>
        have q2:=hLc 4 (by decide) q4 2 (by kernel_rfl)
        have q0:=hLc 2 (by decide) q2 0 (by kernel_rfl)
        rw [hLi] at q0
        cases q0
      exact .inr ⟨rfl,fun K' hK=>wp_move (.tmp 0) rfl (zet ((hold 4 0 (by decide) hL0 rfl).trans rfl)) (hK _ _ ⟨hJ,hJb⟩ rfl zvs)⟩
     ·
      exact .inr ⟨rfl,fun K' hK=>wp_load 30 (.tmp 3) rfl bk1 0 2 #[.bool p.b,.slice p.a p.n p.c] #[.bool p.b,.slice p.a p.n p.c] 30 (hJ.es.at' _ (zzG (i:=1) rfl)) (zet ((hev 3 (by decide)).trans rfl)) ag30 sz30 (zzF (by kernel_rfl)) (by kernel_rfl) (hK _ _ ⟨hJ,hJb⟩ rfl zvs)⟩
     ·
      refine .inr ⟨rfl,fun K' hK=>?_⟩
      refine zcz (.func 83) #[.tmp 17,.const (.int .i64 0),.tmp 18] #[25,3,30] 83 #[] #[rows.v,.int .i64 0,p.v] _ rfl rfl (map3 (zet ((hin 0 17 rfl).trans (congrArg some (show uu 0=rows.v from hd 0 (by decide) (by kernel_rfl))))) rfl (zet ((hin 1 18 rfl).trans (congrArg some (show uu 1=p.v from hd 1 (by decide) (by kernel_rfl)))))) rfl (fun _ _=>rfl) (lCondensed  hJ.nx rows 0 p (by omega) (hJ.get 3 (f:=Mt (r+1) (fun _=>r+1) B rows) rfl) (hJ.get 2 (f:=p.is) rfl) ez_p (fun a j ha hj=>HI.out.sz a j ha hj) HS.out (by omega) (by omega) HD.out (by omega) (by omega)) ?_
      rintro zz ww2 ⟨s4,rfl,hi_s4,hB⟩
      exact ⟨_,rfl,hK _ _ ⟨hJ.later hB,hJb.trans (hB.mono hJb.size)⟩ ⟨s4,rfl,hi_s4⟩ (zvl hVS6 hB)⟩
     ·
      exact .inr ⟨rfl,fun K' hK=>wp_load 30 (.tmp 4) rfl bk2 0 2 #[.bool q3.b,.slice q3.a q3.n q3.c] #[.bool q3.b,.slice q3.a q3.n q3.c] 30 (hJ.es.at' _ (zzG (i:=0) rfl)) (zet ((hev 4 (by decide)).trans rfl)) ag30 sz30 (zzF (by kernel_rfl)) (by kernel_rfl) (hK _ _ ⟨hJ,hJb⟩ rfl zvs)⟩
     ·
      obtain ⟨s4,e2,hi_s4⟩:=(show (vmt r (fun _=>r) (M.cnd B 0 d)) (uu 2) X8 ww from hd 2 (by decide) (by kernel_rfl))
      replace hJ:=hJ.more (f:=Mt r (fun _=>r) (M.cnd B 0 d) s4) (Mt.stb _ _ _ _) hi_s4
      exact .inr ⟨rfl,fun K' hK=>wp_asgn (.tmp 19) rfl (zet ((hin 2 19 rfl).trans (congrArg some e2))) (hK _ _ ⟨(hJ.only [q3.is,Ls (r+1) (B 0) s2,p.is,Mt (r+1) (fun _=>r+1) B rows] (by simp)),hJb⟩ ⟨s4,rfl,hi_s4⟩ zvs)⟩
    clear hM
    intro uu W7 hZ11p hd
    obtain ⟨hZ11,hb6⟩:=hZ11p
    have e_0:uu 0=rows.v:=hd 0 (by decide)
    have e_1:uu 1=p.v:=hd 1 (by decide)
    obtain ⟨s4,e_2,hi_s4⟩:=(show (vmt r (fun _=>r) (M.cnd B 0 d)) (uu 2) X8 W7 from hd 2 (by decide))
    have e_3:uu 3=q3.v:=hd 3 (by decide)
    obtain ⟨s4_4,e_4,hi_s4_4⟩:=(show (vmt r (fun _=>r) (M.cnd B 0 d)) (uu 4) X8 W7 from hd 4 (by decide))
    clear hd hVS6
    simp only [layS,Act.put,zzC,zzD,zzE,Nat.zero_add,Nat.reduceAdd,List.drop_succ_cons,List.drop_zero,List.drop_nil,e_0,e_1,e_2,e_3,e_4]
    clear e_0 e_1 e_2 e_3 e_4
    have hZ12:=hZ11.more (f:=Mt r (fun _=>r) (M.cnd B 0 d) s4) (Mt.stb _ _ _ _) hi_s4
    clear hZ11 hi_s4
    have hZ13:=hZ12.more (f:=Mt r (fun _=>r) (M.cnd B 0 d) s4_4) (Mt.stb _ _ _ _) hi_s4_4
    clear hZ12 hi_s4_4
    go_wp2_with (refine zss 30 (.tmp 3) (.tmp 20) 1 bk1 0 #[.bool p.b,.slice p.a p.n p.c] 30 2 [.bool q3.b,.slice q3.a q3.n q3.c] #[.bool q3.b,.slice q3.a q3.n q3.c] [(bk2,#[.bool q3.b,.slice q3.a q3.n q3.c],30),(bk1,#[.bool q3.b,.slice q3.a q3.n q3.c],30)] rfl rfl rfl rfl sz30 hZ13 rfl rfl (zzF (by kernel_rfl)) (by kernel_rfl) (by kernel_rfl) (by kernel_rfl) (fun W8 hZ14=>?_))
    clear hZ13
    simp only [Stop,Act.put,zzC,zzD,zzE]
    have hZ15:=hZ14.only [q3.is,Mt r (fun _=>r) (M.cnd B 0 d) s4_4] (by simp)
    clear hZ14
    have hZ15d:=hZ15.drop (List.sublist_cons_self _ _)
    go_wp2
    go_roundw
    case rel=>exact ⟨k+1,r,s4_4,q3,_,_,_,rfl,ez_q3,HI.out.step HZ.out,fun i hi=>by
      by_cases e:i=k
      ·
       rw [e,← HI.out.head]; exact HZ.out
      ·
       exact HK.out i (by omega),hZ15d⟩
    case measure=>(simp only [sLen,Sl.v]; have h2:=(hZ15.get 1 (f:=Mt r (fun _=>r) (M.cnd B 0 d) s4_4) rfl).n; omega)
   ·
    have HZ:=Lib.hid hz
    clear hz
    go_wp2_with (refine zso rfl (fun K hK=>wp_lenq (.tmp 6) 25 27 rows rfl (by kernel_rfl) rfl (hZ.get 1 (f:=Mt (r+1) (fun _=>r+1) B rows) rfl).n (hK _ _ ?_)))
    simp only [Stop,Act.put,zzC,zzD,zzE]
    go_wp2_with (refine zso rfl (fun K hK=>wp_gtri (.tmp 7) (.const (.int .i64 0)) rfl rfl rfl (r:=true) (decide_eq_true (by omega)) (hK _ _ ?_)))
    simp only [Stop,Act.put,zzC,zzD,zzE]
    go_wp2_with (refine zso rfl (fun K hK=>wp_ixs 25 (.tmp 9) (.const (.int .i64 0)) rows 0 1 27 rfl rfl rfl (by kernel_rfl) sz27 (fun h=>((hZ.get 1 (f:=Mt (r+1) (fun _=>r+1) B rows) rfl).sq.nil h).1) ((hZ.get 1 (f:=Mt (r+1) (fun _=>r+1) B rows) rfl).n ▸ (by omega)) (hK _ _ ?_)))
    simp only [Stop,Act.put,zzC,zzD,zzE]
    go_wp2_with (refine zso rfl (fun K hK=>wp_ldm 27 (.tmp 10) rows 0 ((r+1)) (fun _=>r+1) B rfl rfl (hZ.get 1 (f:=Mt (r+1) (fun _=>r+1) B rows) rfl) (by omega) ag27 (fun s5 hi_s5=>hK _ _ ?_)))
    simp only [Stop,Act.put,zzC,zzD,zzE]
    have hZ16:=hZ.more (f:=Ls (r+1) (B 0) s5) (Ls.stb _ _ _) hi_s5
    clear hZ hi_s5
    go_wp2_with (refine zso rfl (fun K hK=>wp_ixs 27 (.tmp 11) (.const (.int .i64 0)) s5 0 2 30 rfl rfl rfl (by kernel_rfl) sz30 (fun h=>((hZ16.get 0 (f:=Ls (r+1) (B 0) s5) rfl).sq.nil h).1) ((hZ16.get 0 (f:=Ls (r+1) (B 0) s5) rfl).n ▸ (by omega)) (hK _ _ ?_)))
    simp only [Stop,Act.put,zzC,zzD,zzE]
    go_wp2_with (refine zso rfl (fun K hK=>wp_ldn 30 (.tmp 12) s5 0 (r+1) (B 0) rfl rfl (hZ16.get 0 (f:=Ls (r+1) (B 0) s5) rfl) (by omega) ag30 sz30 (fun q6 ez_q6 hi_q6=>hK _ _ ?_)))
    simp only [Stop,Act.put,zzC,zzD,zzE]
    have hZ17:=hZ16.more (f:=q6.is) q6.stb hi_q6
    clear hZ16 hi_q6
    go_wp2_with (refine zsa 30 #[.bool false,.slice none 0 0] (.agg #[.bool false,.slice none 0 0]) rfl rfl zv30 rfl hZ17 (fun bk3 X18 W9 hZ18=>?_))
    clear hZ17
    simp only [Stop,Act.put,zzC,zzD,zzE]
    go_wp2_with (refine zss 30 (.tmp 4) (.tmp 13) 0 bk3 0 #[.bool false,.slice none 0 0] 30 2 [.bool q6.b,.slice q6.a q6.n q6.c] #[.bool q6.b,.slice q6.a q6.n q6.c] [(bk3,#[.bool q6.b,.slice q6.a q6.n q6.c],30),(bk1,#[.bool p.b,.slice p.a p.n p.c],30)] rfl rfl rfl rfl sz30 hZ18 rfl rfl (zzF (by kernel_rfl)) (by kernel_rfl) (by kernel_rfl) (by kernel_rfl) (fun W10 hZ19=>?_))
    clear hZ18
    simp only [Stop,Act.put,zzC,zzD,zzE]
    go_wp2_with (refine zso rfl (fun K hK=>wp_load 30 (.tmp 4) rfl bk3 0 2 #[.bool q6.b,.slice q6.a q6.n q6.c] #[.bool q6.b,.slice q6.a q6.n q6.c] 30 (hZ19.es.at' _ (zzG (i:=0) rfl)) rfl ag30 sz30 (zzF (by kernel_rfl)) (by kernel_rfl) (hK _ _ ?_)))
    simp only [Stop,Act.put,zzC,zzD,zzE]
    go_wp2_with fail
    refine (zSign (hZ19.get 0 (f:=q6.is) rfl) ez_q6).mono ?_
    rintro zz W11 ⟨rfl,hB⟩
    have hZ20:=hZ19.later hB
    clear hB hZ19
    go_wp2_with (refine zso rfl (fun K hK=>wp_leqi (.tmp 15) (.const (.int .i64 0)) rfl rfl rfl (r:=true) (decide_eq_true (by rw [sgnI_pos]; have:=HZ.out; omega)) (hK _ _ ?_)))
    simp only [Stop,Act.put,zzC,zzD,zzE]
    go_wp2
    go_ret
    refine ⟨?_,hZ20.below⟩
    rw [show decide (∀ k,k < m→0 < M.dt (k+1) A)=false from decide_eq_false (fun h=>by have h1:=HZ.out; have h2:=h k (by omega); rw [← HI.out.head] at h2; omega)]
    rfl
  ·
   obtain rfl:r=0:=by omega
   have hn0:rows.n=0:=(hZ.get 1 (f:=Mt 0 (fun _=>0) B rows) rfl).n
   go_wp2_with (refine zso rfl (fun K hK=>wp_lenq (.tmp 6) 25 27 rows rfl (by kernel_rfl) rfl (hZ.get 1 (f:=Mt 0 (fun _=>0) B rows) rfl).n (hK _ _ ?_)))
   simp only [Stop,Act.put,zzC,zzD,zzE]
   go_wp2_with (refine zso rfl (fun K hK=>wp_gtri (.tmp 7) (.const (.int .i64 0)) rfl rfl rfl (r:=false) (decide_eq_false (by omega)) (hK _ _ ?_)))
   simp only [Stop,Act.put,zzC,zzD,zzE]
   go_wp2
   go_ret
   refine ⟨?_,hZ.below⟩
   rw [show decide (∀ k,k < m→0 < M.dt (k+1) A)=true from decide_eq_true (fun i hi=>HK.out i (by omega))]
   rfl
theorem cmpI_ne {x y:Int}:(cmpI x y ≠ 0)=(x ≠ y):=by
 refine propext ?_
 unfold cmpI
 split
 ·
  omega
 ·
  split <;> omega
theorem sym_of {m:Nat} {A:Nat→Nat→Int} (h:∀ x y,x < m→y < x→A x y=A y x):Sym m A:=fun i j hi hj=>by
 rcases Nat.lt_trichotomy i j with h1 | h1 | h1
 ·
  exact (h j i hj h1).symm
 ·
  rw [h1]
 ·
  exact h i j hi h1
open Classical in
set_option maxRecDepth 100000 in
set_option maxHeartbeats 12800000 in
theorem lOwn {X0:Nat→Prop} {w:World} (hX:NX X0 w) (a:Sl) {m:Nat} {A:Nat→Nat→Int} (hm:m≤12) (ha:Mt m (fun _=>m) A a X0 w):Calls Tryz.prog 58 #[a.v] w (PVal (.bool (decide (Sym m A))) w):=by
 have hZ0:=zs_start hX
 have hZ1:=hZ0.more (f:=Mt m (fun _=>m) A a) (Mt.stb _ _ _ _) ha
 clear hZ0
 go_enter Tryz.func58,Tryz.ntmps58
 go_wp2_with (refine zso rfl (fun K hK=>wp_lenq (.tmp 6) 26 27 a rfl (by kernel_rfl) rfl (hZ1.get 0 (f:=Mt m (fun _=>m) A a) rfl).n (hK _ _ ?_)))
 simp only [Stop,Act.put,zzC,zzD,zzE]
 go_wp2
 go_loopw [8] (fun iv wr=>∃ i:Nat,i≤m∧iv=.int .i64 ((i:Nat):Int)∧(∀ x y,x < i→y < x→A x y=A y x)∧∃ X:Nat→Prop,Zs w wr X0 X [] [Mt m (fun _=>m) A a]) (fun iv _=>m - (intOf iv).toNat)
 case atStart=>exact ⟨0,by omega,rfl,fun x y hx _=>absurd hx (Nat.not_lt_zero x),_,hZ1⟩
 case round =>
  obtain ⟨i,hi,rfl,hsym,X,hZ⟩:=hrel
  have HY:=Lib.hid hsym
  clear hsym
  by_cases hlt:i < m
  ·
   go_wp2_with (refine zso rfl (fun K hK=>wp_lssi (.tmp 8) (.tmp 7) rfl rfl rfl (r:=true) (decide_eq_true (by omega)) (hK _ _ ?_)))
   simp only [Stop,Act.put,zzC,zzD,zzE]
   go_wp2_with (refine zso rfl (fun K hK=>wp_ixs 26 (.tmp 6) (.tmp 8) a i 1 27 rfl rfl rfl (by kernel_rfl) sz27 (fun h=>((hZ.get 0 (f:=Mt m (fun _=>m) A a) rfl).sq.nil h).1) ((hZ.get 0 (f:=Mt m (fun _=>m) A a) rfl).n ▸ (by omega)) (hK _ _ ?_)))
   simp only [Stop,Act.put,zzC,zzD,zzE]
   go_wp2_with (refine zso rfl (fun K hK=>wp_ldm 27 (.tmp 11) a i m (fun _=>m) A rfl rfl (hZ.get 0 (f:=Mt m (fun _=>m) A a) rfl) (by omega) ag27 (fun s1 hi_s1=>hK _ _ ?_)))
   simp only [Stop,Act.put,zzC,zzD,zzE]
   have hZ2:=hZ.more (f:=Ls m (A i) s1) (Ls.stb _ _ _) hi_s1
   clear hZ hi_s1
   go_wp2
   obtain ⟨wo,rfl⟩:∃ wo:World,wo=wr:=⟨_,rfl⟩
   go_wp2
   go_loopw [14] (fun jv wr=>∃ j:Nat,j≤i∧jv=.int .i64 ((j:Nat):Int)∧(∀ y,y < j→A i y=A y i)∧Zs w wr X0 X [] [Ls m (A i) s1,Mt m (fun _=>m) A a]) (fun iv _=>i - (intOf iv).toNat)
   case atStart=>exact ⟨0,by omega,rfl,fun y hy=>absurd hy (Nat.not_lt_zero y),hZ2⟩
   case round =>
    clear hZ2
    obtain ⟨j,hj,rfl,hrow,hZi⟩:=hrel
    have HR:=Lib.hid hrow
    clear hrow
    by_cases hlj:j < i
    ·
     by_cases he:A i j=A j i
     ·
      have HE:=Lib.hid he
      clear he
      go_wp2_with (refine zso rfl (fun K hK=>wp_lssi (.tmp 14) (.tmp 13) rfl rfl rfl (r:=true) (decide_eq_true (by omega)) (hK _ _ ?_)))
      simp only [Stop,Act.put,zzC,zzD,zzE]
      go_wp2
      have hM:Zs w wr.drew X0 X [] [Ls m (A i) s1,Mt m (fun _=>m) A a]∧Below wr.heap.size wr wr.drew:=⟨hZi.later (Below.refl _ _).drew,(Below.refl _ _).drew⟩
      clear hZi
      have hVS7:∀ k,k ∈ ([veq (s1.v),veq (.int .i64 (((j:Nat):Int))),veq ((s1.at 2 j)),vnum (A i j),veq (a.v),veq (.int .i64 (((j:Nat):Int))),veq ((a.at 1 j)),vls m (A j),veq (.int .i64 (((i:Nat):Int))),vat m (A j) i,vnum (A j i),veq (.int .i64 ((cmpI (A i j) (A j i)))),veq (.bool false)]:List VF)→VSt k:=by
       intro k hk
       simp only [List.mem_cons,List.not_mem_nil,or_false] at hk
       rcases hk with rfl | rfl | rfl | rfl | rfl | rfl | rfl | rfl | rfl | rfl | rfl | rfl | rfl
       ·
        exact veq_st _
       ·
        exact veq_st _
       ·
        exact veq_st _
       ·
        exact vnum_st _
       ·
        exact veq_st _
       ·
        exact veq_st _
       ·
        exact veq_st _
       ·
        exact vls_st _ _
       ·
        exact veq_st _
       ·
        exact vat_st _ _ _
       ·
        exact vnum_st _
       ·
        exact veq_st _
       ·
        exact veq_st _
      refine wp_region_q 13 [some 17,some 18,some 19,some 20,some 21,some 22,some 23,some 24,some 25,some 26,some 27,some 28,some 29] (vzL [veq (s1.v),veq (.int .i64 (((j:Nat):Int))),veq ((s1.at 2 j)),vnum (A i j),veq (a.v),veq (.int .i64 (((j:Nat):Int))),veq ((a.at 1 j)),vls m (A j),veq (.int .i64 (((i:Nat):Int))),vat m (A j) i,vnum (A j i),veq (.int .i64 ((cmpI (A i j) (A j i)))),veq (.bool false)] X) (fun W=>Zs w W X0 X [] [Ls m (A i) s1,Mt m (fun _=>m) A a]∧Below wr.heap.size wr W) (by kernel_rfl) (by kernel_rfl) (by rfl) (by decide) (by rfl) hM ?_ ?_
      ·
       intro i hl hi LL uu ww aa hLi hLc hJ hd hev hin hold
       clear hM
       obtain ⟨hJ,hJb⟩:=hJ
       obtain rfl | rfl | rfl | rfl | rfl | rfl | rfl | rfl | rfl | rfl | rfl | rfl | rfl:i=0∨i=1∨i=2∨i=3∨i=4∨i=5∨i=6∨i=7∨i=8∨i=9∨i=10∨i=11∨i=12:=by omega
       ·
        exact .inr ⟨rfl,fun K' hK=>wp_move (.tmp 4) rfl (zet ((hev 4 (by decide)).trans rfl)) (hK _ _ ⟨hJ,hJb⟩ rfl zvs)⟩
       ·
        exact .inr ⟨rfl,fun K' hK=>wp_move (.tmp 5) rfl (zet ((hev 5 (by decide)).trans rfl)) (hK _ _ ⟨hJ,hJb⟩ rfl zvs)⟩
       ·
        exact .inr ⟨rfl,fun K' hK=>wp_ixs 27 (.tmp 17) (.tmp 18) s1 j 2 30 rfl (zet ((hin 0 17 rfl).trans (congrArg some (show uu 0=s1.v from hd 0 (by decide) (by kernel_rfl))))) (zet ((hin 1 18 rfl).trans (congrArg some (show uu 1=.int .i64 (((j:Nat):Int)) from hd 1 (by decide) (by kernel_rfl))))) (by kernel_rfl) sz30 (fun h=>((hJ.get 0 (f:=Ls m (A i) s1) rfl).sq.nil h).1) ((hJ.get 0 (f:=Ls m (A i) s1) rfl).n ▸ (by omega)) (hK _ _ ⟨hJ,hJb⟩ rfl zvs)⟩
       ·
        exact .inr ⟨rfl,fun K' hK=>wp_ldn 30 (.tmp 19) s1 j m (A i) rfl (zet ((hin 2 19 rfl).trans (congrArg some (show uu 2=(s1.at 2 j) from hd 2 (by decide) (by kernel_rfl))))) (hJ.get 0 (f:=Ls m (A i) s1) rfl) (by omega) ag30 sz30 (fun q2 ez_q2 hi_q2=>hK _ _ ⟨hJ,hJb⟩ ⟨q2,rfl,ez_q2,hi_q2⟩ zvs)⟩
       ·
        exact .inr ⟨rfl,fun K' hK=>wp_move (.tmp 0) rfl (zet ((hev 0 (by decide)).trans rfl)) (hK _ _ ⟨hJ,hJb⟩ rfl zvs)⟩
       ·
        exact .inr ⟨rfl,fun K' hK=>wp_move (.tmp 5) rfl (zet ((hev 5 (by decide)).trans rfl)) (hK _ _ ⟨hJ,hJb⟩ rfl zvs)⟩
       ·
        exact .inr ⟨rfl,fun K' hK=>wp_ixs 26 (.tmp 21) (.tmp 22) a j 1 27 rfl (zet ((hin 4 21 rfl).trans (congrArg some (show uu 4=a.v from hd 4 (by decide) (by kernel_rfl))))) (zet ((hin 5 22 rfl).trans (congrArg some (show uu 5=.int .i64 (((j:Nat):Int)) from hd 5 (by decide) (by kernel_rfl))))) (by kernel_rfl) sz27 (fun h=>((hJ.get 1 (f:=Mt m (fun _=>m) A a) rfl).sq.nil h).1) ((hJ.get 1 (f:=Mt m (fun _=>m) A a) rfl).n ▸ (by omega)) (hK _ _ ⟨hJ,hJb⟩ rfl zvs)⟩
       ·
        exact .inr ⟨rfl,fun K' hK=>wp_ldm 27 (.tmp 23) a j m (fun _=>m) A rfl (zet ((hin 6 23 rfl).trans (congrArg some (show uu 6=(a.at 1 j) from hd 6 (by decide) (by kernel_rfl))))) (hJ.get 1 (f:=Mt m (fun _=>m) A a) rfl) (by omega) ag27 (fun s3 hi_s3=>hK _ _ ⟨hJ,hJb⟩ ⟨s3,rfl,hi_s3⟩ zvs)⟩
       ·
        exact .inr ⟨rfl,fun K' hK=>wp_move (.tmp 3) rfl (zet ((hev 3 (by decide)).trans rfl)) (hK _ _ ⟨hJ,hJb⟩ rfl zvs)⟩
       ·
        obtain ⟨s3,e7,hi_s3⟩:=(show (vls m (A j)) (uu 7) X ww from hd 7 (by decide) (by kernel_rfl))
        replace hJ:=hJ.more (f:=Ls m (A j) s3) (Ls.stb _ _ _) hi_s3
        exact .inr ⟨rfl,fun K' hK=>wp_ixs 27 (.tmp 24) (.tmp 25) s3 i 2 30 rfl (zet ((hin 7 24 rfl).trans (congrArg some e7))) (zet ((hin 8 25 rfl).trans (congrArg some (show uu 8=.int .i64 (((i:Nat):Int)) from hd 8 (by decide) (by kernel_rfl))))) (by kernel_rfl) sz30 (fun h=>((hJ.get 0 (f:=Ls m (A j) s3) rfl).sq.nil h).1) ((hJ.get 0 (f:=Ls m (A j) s3) rfl).n ▸ (by omega)) (hK _ _ ⟨(hJ.only [Ls m (A i) s1,Mt m (fun _=>m) A a] (by simp)),hJb⟩ ⟨s3,rfl,hi_s3⟩ zvs)⟩
       ·
        obtain ⟨s3,e9,hi_s3⟩:=(show (vat m (A j) i) (uu 9) X ww from hd 9 (by decide) (by kernel_rfl))
        replace hJ:=hJ.more (f:=Ls m (A j) s3) (Ls.stb _ _ _) hi_s3
        exact .inr ⟨rfl,fun K' hK=>wp_ldn 30 (.tmp 26) s3 i m (A j) rfl (zet ((hin 9 26 rfl).trans (congrArg some e9))) (hJ.get 0 (f:=Ls m (A j) s3) rfl) (by omega) ag30 sz30 (fun q4 ez_q4 hi_q4=>hK _ _ ⟨(hJ.only [Ls m (A i) s1,Mt m (fun _=>m) A a] (by simp)),hJb⟩ ⟨q4,rfl,ez_q4,hi_q4⟩ zvs)⟩
       ·
        obtain ⟨q2,e3,ez_q2,hi_q2⟩:=(show (vnum (A i j)) (uu 3) X ww from hd 3 (by decide) (by kernel_rfl))
        obtain ⟨q4,e10,ez_q4,hi_q4⟩:=(show (vnum (A j i)) (uu 10) X ww from hd 10 (by decide) (by kernel_rfl))
        replace hJ:=hJ.more (f:=q2.is) q2.stb hi_q2
        replace hJ:=hJ.more (f:=q4.is) q4.stb hi_q4
        refine .inr ⟨rfl,fun K' hK=>?_⟩
        refine zcz (.func 9) #[.tmp 20,.tmp 27] #[30,30] 9 #[] #[q2.v,q4.v] _ rfl rfl (map2 (zet ((hin 3 20 rfl).trans (congrArg some e3))) (zet ((hin 10 27 rfl).trans (congrArg some e10)))) rfl (fun _ _=>rfl) (zCmp (hJ.get 1 (f:=q2.is) rfl) (hJ.get 0 (f:=q4.is) rfl) ez_q2 ez_q4) ?_
        rintro zz ww2 ⟨rfl,hB⟩
        exact ⟨_,rfl,hK _ _ ⟨(hJ.only [Ls m (A i) s1,Mt m (fun _=>m) A a] (by simp)).later hB,hJb.trans (hB.mono hJb.size)⟩ rfl (zvl hVS7 hB)⟩
       ·
        exact .inr ⟨rfl,fun K' hK=>wp_neqi (.tmp 28) (.const (.int .i64 0)) 3 3 rfl rfl (zet ((hin 11 28 rfl).trans (congrArg some (show uu 11=.int .i64 ((cmpI (A i j) (A j i))) from hd 11 (by decide) (by kernel_rfl))))) rfl (r:=false) (decide_eq_false (by rw [cmpI_ne]; exact fun h=>h HE.out)) (hK _ _ ⟨hJ,hJb⟩ rfl zvs)⟩
      clear hM
      intro uu W1 hZ3p hd
      obtain ⟨hZ3,hb7⟩:=hZ3p
      have e_0:uu 0=s1.v:=hd 0 (by decide)
      have e_1:uu 1=.int .i64 (((j:Nat):Int)):=hd 1 (by decide)
      have e_2:uu 2=(s1.at 2 j):=hd 2 (by decide)
      obtain ⟨q2,e_3,ez_q2,hi_q2⟩:=(show (vnum (A i j)) (uu 3) X W1 from hd 3 (by decide))
      have e_4:uu 4=a.v:=hd 4 (by decide)
      have e_5:uu 5=.int .i64 (((j:Nat):Int)):=hd 5 (by decide)
      have e_6:uu 6=(a.at 1 j):=hd 6 (by decide)
      obtain ⟨s3,e_7,hi_s3⟩:=(show (vls m (A j)) (uu 7) X W1 from hd 7 (by decide))
      have e_8:uu 8=.int .i64 (((i:Nat):Int)):=hd 8 (by decide)
      obtain ⟨s3_9,e_9,hi_s3_9⟩:=(show (vat m (A j) i) (uu 9) X W1 from hd 9 (by decide))
      obtain ⟨q4,e_10,ez_q4,hi_q4⟩:=(show (vnum (A j i)) (uu 10) X W1 from hd 10 (by decide))
      have e_11:uu 11=.int .i64 ((cmpI (A i j) (A j i))):=hd 11 (by decide)
      have e_12:uu 12=.bool false:=hd 12 (by decide)
      clear hd hVS7
      simp only [layS,Act.put,zzC,zzD,zzE,Nat.zero_add,Nat.reduceAdd,List.drop_succ_cons,List.drop_zero,List.drop_nil,e_0,e_1,e_2,e_3,e_4,e_5,e_6,e_7,e_8,e_9,e_10,e_11,e_12]
      clear e_0 e_1 e_2 e_3 e_4 e_5 e_6 e_7 e_8 e_9 e_10 e_11 e_12
      have hZ4:=hZ3.more (f:=q2.is) q2.stb hi_q2
      clear hZ3 hi_q2
      have hZ5:=hZ4.more (f:=Ls m (A j) s3) (Ls.stb _ _ _) hi_s3
      clear hZ4 hi_s3
      have hZ6:=hZ5.more (f:=Ls m (A j) s3_9) (Ls.stb _ _ _) hi_s3_9
      clear hZ5 hi_s3_9
      have hZ7:=hZ6.more (f:=q4.is) q4.stb hi_q4
      clear hZ6 hi_q4
      go_wp2_with (refine zso rfl (fun K hK=>wp_addi (.tmp 14) (.const (.int .i64 1)) rfl rfl rfl (C:=((j+1:Nat):Int)) (by omega) (by omega) (by omega) (hK _ _ ?_)))
      simp only [Stop,Act.put,zzC,zzD,zzE]
      have hZ8:=hZ7.only [Ls m (A i) s1,Mt m (fun _=>m) A a] (by simp)
      clear hZ7
      go_wp2
      go_roundw
      case rel=>exact ⟨j+1,by omega,by go_num,fun y hy=>by
        by_cases e:y=j
        ·
         rw [e]; exact HE.out
        ·
         exact HR.out y (by omega),hZ8⟩
      case measure=>simp [intOf]; omega
     ·
      have HE:=Lib.hid he
      clear he
      go_wp2_with (refine zso rfl (fun K hK=>wp_lssi (.tmp 14) (.tmp 13) rfl rfl rfl (r:=true) (decide_eq_true (by omega)) (hK _ _ ?_)))
      simp only [Stop,Act.put,zzC,zzD,zzE]
      go_wp2
      have hM:Zs w wr.drew X0 X [] [Ls m (A i) s1,Mt m (fun _=>m) A a]∧Below wr.heap.size wr wr.drew:=⟨hZi.later (Below.refl _ _).drew,(Below.refl _ _).drew⟩
      clear hZi
      have hVS7:∀ k,k ∈ ([veq (s1.v),veq (.int .i64 (((j:Nat):Int))),veq ((s1.at 2 j)),vnum (A i j),veq (a.v),veq (.int .i64 (((j:Nat):Int))),veq ((a.at 1 j)),vls m (A j),veq (.int .i64 (((i:Nat):Int))),vat m (A j) i,vnum (A j i),veq (.int .i64 ((cmpI (A i j) (A j i)))),veq (.bool true)]:List VF)→VSt k:=by
       intro k hk
       simp only [List.mem_cons,List.not_mem_nil,or_false] at hk
       rcases hk with rfl | rfl | rfl | rfl | rfl | rfl | rfl | rfl | rfl | rfl | rfl | rfl | rfl
       ·
        exact veq_st _
       ·
        exact veq_st _
       ·
        exact veq_st _
       ·
        exact vnum_st _
       ·
        exact veq_st _
       ·
        exact veq_st _
       ·
        exact veq_st _
       ·
        exact vls_st _ _
       ·
        exact veq_st _
       ·
        exact vat_st _ _ _
       ·
        exact vnum_st _
       ·
        exact veq_st _
       ·
        exact veq_st _
      refine wp_region_q 13 [some 17,some 18,some 19,some 20,some 21,some 22,some 23,some 24,some 25,some 26,some 27,some 28,some 29] (vzL [veq (s1.v),veq (.int .i64 (((j:Nat):Int))),veq ((s1.at 2 j)),vnum (A i j),veq (a.v),veq (.int .i64 (((j:Nat):Int))),veq ((a.at 1 j)),vls m (A j),veq (.int .i64 (((i:Nat):Int))),vat m (A j) i,vnum (A j i),veq (.int .i64 ((cmpI (A i j) (A j i)))),veq (.bool true)] X) (fun W=>Zs w W X0 X [] [Ls m (A i) s1,Mt m (fun _=>m) A a]∧Below wr.heap.size wr W) (by kernel_rfl) (by kernel_rfl) (by rfl) (by decide) (by rfl) hM ?_ ?_
      ·
       intro i hl hi LL uu ww aa hLi hLc hJ hd hev hin hold
       clear hM
       obtain ⟨hJ,hJb⟩:=hJ
       obtain rfl | rfl | rfl | rfl | rfl | rfl | rfl | rfl | rfl | rfl | rfl | rfl | rfl:i=0∨i=1∨i=2∨i=3∨i=4∨i=5∨i=6∨i=7∨i=8∨i=9∨i=10∨i=11∨i=12:=by omega
       ·
        exact .inr ⟨rfl,fun K' hK=>wp_move (.tmp 4) rfl (zet ((hev 4 (by decide)).trans rfl)) (hK _ _ ⟨hJ,hJb⟩ rfl zvs)⟩
       ·
        exact .inr ⟨rfl,fun K' hK=>wp_move (.tmp 5) rfl (zet ((hev 5 (by decide)).trans rfl)) (hK _ _ ⟨hJ,hJb⟩ rfl zvs)⟩
       ·
        exact .inr ⟨rfl,fun K' hK=>wp_ixs 27 (.tmp 17) (.tmp 18) s1 j 2 30 rfl (zet ((hin 0 17 rfl).trans (congrArg some (show uu 0=s1.v from hd 0 (by decide) (by kernel_rfl))))) (zet ((hin 1 18 rfl).trans (congrArg some (show uu 1=.int .i64 (((j:Nat):Int)) from hd 1 (by decide) (by kernel_rfl))))) (by kernel_rfl) sz30 (fun h=>((hJ.get 0 (f:=Ls m (A i) s1) rfl).sq.nil h).1) ((hJ.get 0 (f:=Ls m (A i) s1) rfl).n ▸ (by omega)) (hK _ _ ⟨hJ,hJb⟩ rfl zvs)⟩
       ·
        exact .inr ⟨rfl,fun K' hK=>wp_ldn 30 (.tmp 19) s1 j m (A i) rfl (zet ((hin 2 19 rfl).trans (congrArg some (show uu 2=(s1.at 2 j) from hd 2 (by decide) (by kernel_rfl))))) (hJ.get 0 (f:=Ls m (A i) s1) rfl) (by omega) ag30 sz30 (fun q5 ez_q5 hi_q5=>hK _ _ ⟨hJ,hJb⟩ ⟨q5,rfl,ez_q5,hi_q5⟩ zvs)⟩
       ·
        exact .inr ⟨rfl,fun K' hK=>wp_move (.tmp 0) rfl (zet ((hev 0 (by decide)).trans rfl)) (hK _ _ ⟨hJ,hJb⟩ rfl zvs)⟩
       ·
        exact .inr ⟨rfl,fun K' hK=>wp_move (.tmp 5) rfl (zet ((hev 5 (by decide)).trans rfl)) (hK _ _ ⟨hJ,hJb⟩ rfl zvs)⟩
       ·
        exact .inr ⟨rfl,fun K' hK=>wp_ixs 26 (.tmp 21) (.tmp 22) a j 1 27 rfl (zet ((hin 4 21 rfl).trans (congrArg some (show uu 4=a.v from hd 4 (by decide) (by kernel_rfl))))) (zet ((hin 5 22 rfl).trans (congrArg some (show uu 5=.int .i64 (((j:Nat):Int)) from hd 5 (by decide) (by kernel_rfl))))) (by kernel_rfl) sz27 (fun h=>((hJ.get 1 (f:=Mt m (fun _=>m) A a) rfl).sq.nil h).1) ((hJ.get 1 (f:=Mt m (fun _=>m) A a) rfl).n ▸ (by omega)) (hK _ _ ⟨hJ,hJb⟩ rfl zvs)⟩
       ·
        exact .inr ⟨rfl,fun K' hK=>wp_ldm 27 (.tmp 23) a j m (fun _=>m) A rfl (zet ((hin 6 23 rfl).trans (congrArg some (show uu 6=(a.at 1 j) from hd 6 (by decide) (by kernel_rfl))))) (hJ.get 1 (f:=Mt m (fun _=>m) A a) rfl) (by omega) ag27 (fun s6 hi_s6=>hK _ _ ⟨hJ,hJb⟩ ⟨s6,rfl,hi_s6⟩ zvs)⟩
       ·
        exact .inr ⟨rfl,fun K' hK=>wp_move (.tmp 3) rfl (zet ((hev 3 (by decide)).trans rfl)) (hK _ _ ⟨hJ,hJb⟩ rfl zvs)⟩
       ·
        obtain ⟨s6,e7,hi_s6⟩:=(show (vls m (A j)) (uu 7) X ww from hd 7 (by decide) (by kernel_rfl))
        replace hJ:=hJ.more (f:=Ls m (A j) s6) (Ls.stb _ _ _) hi_s6
        exact .inr ⟨rfl,fun K' hK=>wp_ixs 27 (.tmp 24) (.tmp 25) s6 i 2 30 rfl (zet ((hin 7 24 rfl).trans (congrArg some e7))) (zet ((hin 8 25 rfl).trans (congrArg some (show uu 8=.int .i64 (((i:Nat):Int)) from hd 8 (by decide) (by kernel_rfl))))) (by kernel_rfl) sz30 (fun h=>((hJ.get 0 (f:=Ls m (A j) s6) rfl).sq.nil h).1) ((hJ.get 0 (f:=Ls m (A j) s6) rfl).n ▸ (by omega)) (hK _ _ ⟨(hJ.only [Ls m (A i) s1,Mt m (fun _=>m) A a] (by simp)),hJb⟩ ⟨s6,rfl,hi_s6⟩ zvs)⟩
       ·
        obtain ⟨s6,e9,hi_s6⟩:=(show (vat m (A j) i) (uu 9) X ww from hd 9 (by decide) (by kernel_rfl))
        replace hJ:=hJ.more (f:=Ls m (A j) s6) (Ls.stb _ _ _) hi_s6
        exact .inr ⟨rfl,fun K' hK=>wp_ldn 30 (.tmp 26) s6 i m (A j) rfl (zet ((hin 9 26 rfl).trans (congrArg some e9))) (hJ.get 0 (f:=Ls m (A j) s6) rfl) (by omega) ag30 sz30 (fun q7 ez_q7 hi_q7=>hK _ _ ⟨(hJ.only [Ls m (A i) s1,Mt m (fun _=>m) A a] (by simp)),hJb⟩ ⟨q7,rfl,ez_q7,hi_q7⟩ zvs)⟩
       ·
        obtain ⟨q5,e3,ez_q5,hi_q5⟩:=(show (vnum (A i j)) (uu 3) X ww from hd 3 (by decide) (by kernel_rfl))
        obtain ⟨q7,e10,ez_q7,hi_q7⟩:=(show (vnum (A j i)) (uu 10) X ww from hd 10 (by decide) (by kernel_rfl))
        replace hJ:=hJ.more (f:=q5.is) q5.stb hi_q5
        replace hJ:=hJ.more (f:=q7.is) q7.stb hi_q7
        refine .inr ⟨rfl,fun K' hK=>?_⟩
        refine zcz (.func 9) #[.tmp 20,.tmp 27] #[30,30] 9 #[] #[q5.v,q7.v] _ rfl rfl (map2 (zet ((hin 3 20 rfl).trans (congrArg some e3))) (zet ((hin 10 27 rfl).trans (congrArg some e10)))) rfl (fun _ _=>rfl) (zCmp (hJ.get 1 (f:=q5.is) rfl) (hJ.get 0 (f:=q7.is) rfl) ez_q5 ez_q7) ?_
        rintro zz ww2 ⟨rfl,hB⟩
        exact ⟨_,rfl,hK _ _ ⟨(hJ.only [Ls m (A i) s1,Mt m (fun _=>m) A a] (by simp)).later hB,hJb.trans (hB.mono hJb.size)⟩ rfl (zvl hVS7 hB)⟩
       ·
        exact .inr ⟨rfl,fun K' hK=>wp_neqi (.tmp 28) (.const (.int .i64 0)) 3 3 rfl rfl (zet ((hin 11 28 rfl).trans (congrArg some (show uu 11=.int .i64 ((cmpI (A i j) (A j i))) from hd 11 (by decide) (by kernel_rfl))))) rfl (r:=true) (decide_eq_true (by rw [cmpI_ne]; exact HE.out)) (hK _ _ ⟨hJ,hJb⟩ rfl zvs)⟩
      clear hM
      intro uu W2 hZ9p hd
      obtain ⟨hZ9,hb7⟩:=hZ9p
      have e_0:uu 0=s1.v:=hd 0 (by decide)
      have e_1:uu 1=.int .i64 (((j:Nat):Int)):=hd 1 (by decide)
      have e_2:uu 2=(s1.at 2 j):=hd 2 (by decide)
      obtain ⟨q5,e_3,ez_q5,hi_q5⟩:=(show (vnum (A i j)) (uu 3) X W2 from hd 3 (by decide))
      have e_4:uu 4=a.v:=hd 4 (by decide)
      have e_5:uu 5=.int .i64 (((j:Nat):Int)):=hd 5 (by decide)
      have e_6:uu 6=(a.at 1 j):=hd 6 (by decide)
      obtain ⟨s6,e_7,hi_s6⟩:=(show (vls m (A j)) (uu 7) X W2 from hd 7 (by decide))
      have e_8:uu 8=.int .i64 (((i:Nat):Int)):=hd 8 (by decide)
      obtain ⟨s6_9,e_9,hi_s6_9⟩:=(show (vat m (A j) i) (uu 9) X W2 from hd 9 (by decide))
      obtain ⟨q7,e_10,ez_q7,hi_q7⟩:=(show (vnum (A j i)) (uu 10) X W2 from hd 10 (by decide))
      have e_11:uu 11=.int .i64 ((cmpI (A i j) (A j i))):=hd 11 (by decide)
      have e_12:uu 12=.bool true:=hd 12 (by decide)
      clear hd hVS7
      simp only [layS,Act.put,zzC,zzD,zzE,Nat.zero_add,Nat.reduceAdd,List.drop_succ_cons,List.drop_zero,List.drop_nil,e_0,e_1,e_2,e_3,e_4,e_5,e_6,e_7,e_8,e_9,e_10,e_11,e_12]
      clear e_0 e_1 e_2 e_3 e_4 e_5 e_6 e_7 e_8 e_9 e_10 e_11 e_12
      have hZ10:=hZ9.more (f:=q5.is) q5.stb hi_q5
      clear hZ9 hi_q5
      have hZ11:=hZ10.more (f:=Ls m (A j) s6) (Ls.stb _ _ _) hi_s6
      clear hZ10 hi_s6
      have hZ12:=hZ11.more (f:=Ls m (A j) s6_9) (Ls.stb _ _ _) hi_s6_9
      clear hZ11 hi_s6_9
      have hZ13:=hZ12.more (f:=q7.is) q7.stb hi_q7
      clear hZ12 hi_q7
      go_wp2
      go_ret
      refine ⟨?_,hZ13.below⟩
      rw [show decide (Sym m A)=false from decide_eq_false (fun h=>HE.out (h i j (by omega) (by omega)))]
      rfl
    ·
     obtain rfl:j=i:=by omega
     go_wp2_with (refine zso rfl (fun K hK=>wp_lssi (.tmp 14) (.tmp 13) rfl rfl rfl (r:=false) (decide_eq_false (Int.lt_irrefl _)) (hK _ _ ?_)))
     simp only [Stop,Act.put,zzC,zzD,zzE]
     have hZ14:=hZi.only [Mt m (fun _=>m) A a] (by simp)
     clear hZi
     go_wp2
     go_roundw
     case rel=>exact ⟨j+1,by omega,by go_num,fun x y hx hy=>by
       by_cases e:x=j
       ·
        subst e; exact HR.out y hy
       ·
        exact HY.out x y (by omega) hy,_,hZ14⟩
     case measure=>simp [intOf]; omega
  ·
   obtain rfl:i=m:=by omega
   go_wp2_with (refine zso rfl (fun K hK=>wp_lssi (.tmp 8) (.tmp 7) rfl rfl rfl (r:=false) (decide_eq_false (Int.lt_irrefl _)) (hK _ _ ?_)))
   simp only [Stop,Act.put,zzC,zzD,zzE]
   go_wp2
   go_ret
   refine ⟨?_,hZ.below⟩
   rw [show decide (Sym i A)=true from decide_eq_true (sym_of HY.out)]
   rfl
end Go.Proofs.YtjclllindbfmhabGreatDoor
