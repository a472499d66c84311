/- Parts of the proof. -/
import Derived.Test.YtjclllindbfmhabGreatDoorHs0
import Derived.Test.YtjclllindbfmhabGreatDoorHs26
import Derived.Test.YtjclllindbfmhabGreatDoorHs21
import Derived.Test.YtjclllindbfmhabGreatDoorHs22
import Derived.Test.YtjclllindbfmhabGreatDoorHs23
set_option linter.unusedSimpArgs false
set_option linter.unusedVariables false
namespace Go.Proofs.YtjclllindbfmhabGreatDoor
/- Package lin: the walk of backwards. No statement of the seat is proved here. -/
open Go Go.RowKit
theorem back_eq {m e i:Nat} {A:Nat→Nat→Int} {f x:Nat→Int} {D:Int} (h:Top m 1 e A i f) (hi:i < m) (hs:Sol m A x D):Int.fdiv (D*f (m - i) - M.sm (m - i - 1) (fun k=>f (1+k)*x (i+1+k))) (f 0)=x i:=by
 have h1:=h.lin (Nat.le_refl 1) x D hs
 obtain ⟨r,hr⟩:∃ r,m - i=r+1:=⟨m - i - 1,by omega⟩
 rw [hr] at h1 ⊢
 rw [M.sm_head] at h1
 have e:M.sm r (fun j=>f (j+1)*x (i+(j+1)))=M.sm (r+1 - 1) (fun k=>f (1+k)*x (i+1+k)):=by
  rw [Nat.add_sub_cancel]
  exact M.sm_congr fun j _=>by rw [show j+1=1+j by omega,show i+(1+j)=i+1+j by omega]
 rw [e,Nat.add_zero] at h1
 rw [show D*f (r+1) - M.sm (r+1 - 1) (fun k=>f (1+k)*x (i+1+k))=f 0*x i by omega]
 exact Int.mul_fdiv_cancel_left _ h.ne
theorem noI_zero:NoI (Value.agg #[.bool false,.slice none 0 0]).cells:=by
 intro j k n h
 match j,h with
 | 0,h=>cases h
 | 1,h=>cases h
 | j+2,h=>simp [Value.cells] at h
theorem noI_two (p q:Value) (hp:∀ (k:IntKind) (n:Int),p ≠ .int k n) (hq:∀ (k:IntKind) (n:Int),q ≠ .int k n):∀ (j:Nat) (k:IntKind) (n:Int),[p,q][j]? ≠ some (.int k n)
 | 0,k,n,h=>hp k n (Option.some.inj h)
 | 1,k,n,h=>hq k n (Option.some.inj h)
 | _+2,_,_,h=>by cases h
set_option maxRecDepth 100000 in
set_option maxHeartbeats 12800000 in
theorem lBack {X0:Nat→Prop} {w:World} (hX:NX X0 w) (tops:Sl) (dl:NL) {n e f g:Nat} {A T:Nat→Nat→Int} {x:Nat→Int} {D:Int} (hn:n≤12) (he:e≤200) (hf:f≤100000) (hg:g≤100000) (ht:Mt n (fun i=>1+(n - i)) T tops X0 w) (hdl:dl.is X0 w) (ez_dl:dl.z=D) (bd:Sz f D) (hT:∀ i,i < n→Top n 1 e A i (T i)) (hsol:Sol n A x D) (bx:∀ j,j < n→Sz g (x j)):Calls Tryz.prog 82 #[tops.v,dl.v] w (PLX X0 n x w):=by
 have HT:=Lib.hid hT
 clear hT
 have hZ0:=zs_start hX
 have hZ1:=hZ0.more (f:=Mt n (fun i=>1+(n - i)) T tops) (Mt.stb _ _ _ _) ht
 clear hZ0
 have hZ2:=hZ1.more (f:=dl.is) dl.stb hdl
 clear hZ1
 go_enter Tryz.func82,Tryz.ntmps82
 go_wp2_with (refine zsb 30 (.tmp 1) #[.bool dl.b,.slice dl.a dl.n dl.c] rfl rfl rfl hZ2 (fun bk1 X3 W1 hZ3=>?_))
 clear hZ2
 simp only [Stop,Act.put,zzC,zzD,zzE]
 have hZ4:=hZ3.release hX
 clear hZ3
 go_wp2_with (refine zso rfl (fun K hK=>wp_lenq (.tmp 11) 25 27 tops rfl (by kernel_rfl) rfl (hZ4.get 2 (f:=Mt n (fun i=>1+(n - i)) T tops) rfl).n (hK _ _ ?_)))
 simp only [Stop,Act.put,zzC,zzD,zzE]
 go_wp2_with (refine stopz_make' ei27 noI_zero (.tmp 13) (.tmp 13) n rfl rfl rfl rfl (by omega) hZ4 (fun b C0 X1 W2 hno hw hZ5=>?_))
 clear hZ4
 simp only [Stop,Act.put,zzC,zzD,zzE]
 go_wp2_with (refine zso rfl (fun K hK=>wp_subi (.tmp 15) (.const (.int .i64 1)) rfl rfl rfl (C:=(((n:Nat):Int) - 1)) (by omega) (by omega) (by omega) (hK _ _ ?_)))
 simp only [Stop,Act.put,zzC,zzD,zzE]
 go_wp2
 go_loopw [7] (fun iv wr=>∃ (d:Nat) (z:Int) (C:Array Value) (X:Nat→Prop),d≤n∧iv=.int .i64 z∧z=((d:Nat):Int) - 1∧NoI C∧Wr 2 (⟨some ⟨b,0,none⟩,n,n⟩:Sl) C∧Zs w wr X0 X [(b,C,30)] [Fg 2 (EN x) d n C,Cf bk1 #[.bool dl.b,.slice dl.a dl.n dl.c] 30,dl.is,Mt n (fun i=>1+(n - i)) T tops]) (fun iv _=>(intOf iv+1).toNat)
 case atStart=>exact ⟨n,_,C0,_,Nat.le_refl _,rfl,rfl,hno,hw,hZ5.more (Fg.stb (EN.stb x) _ _ _) (fun j h1 h2=>absurd h2 (Nat.not_lt.2 h1))⟩
 case round =>
  clear hno hw
  obtain ⟨d,z,C,X,hd,rfl,hz,hno,hw,hZ⟩:=hrel
  have HNO:=Lib.hid hno
  have HW:=Lib.hid hw
  clear hno hw
  by_cases hpos:0 < d
  ·
   obtain ⟨i,rfl⟩:∃ i,d=i+1:=⟨d - 1,by omega⟩
   obtain rfl:z=((i:Nat):Int):=by omega
   clear hz
   have HTi:=Lib.hid (HT.out i (by omega))
   go_wp2_with (refine zso rfl (fun K hK=>wp_geqi (.tmp 17) (.const (.int .i64 0)) rfl rfl rfl (r:=true) (decide_eq_true (by omega)) (hK _ _ ?_)))
   simp only [Stop,Act.put,zzC,zzD,zzE]
   go_wp2_with (refine zso rfl (fun K hK=>wp_ixs 25 (.tmp 21) (.tmp 22) tops i 1 27 rfl rfl rfl (by kernel_rfl) sz27 (fun h=>((hZ.get 3 (f:=Mt n (fun i=>1+(n - i)) T tops) rfl).sq.nil h).1) ((hZ.get 3 (f:=Mt n (fun i=>1+(n - i)) T tops) rfl).n ▸ (by omega)) (hK _ _ ?_)))
   simp only [Stop,Act.put,zzC,zzD,zzE]
   go_wp2_with (refine zso rfl (fun K hK=>wp_ldm 27 (.tmp 23) tops i n (fun i=>1+(n - i)) T rfl rfl (hZ.get 3 (f:=Mt n (fun i=>1+(n - i)) T tops) rfl) (by omega) ag27 (fun s1 hi_s1=>hK _ _ ?_)))
   simp only [Stop,Act.put,zzC,zzD,zzE]
   have hZ6:=hZ.more (f:=Ls (1+(n - i)) (T i) s1) (Ls.stb _ _ _) hi_s1
   clear hZ hi_s1
   have heb:eb e i≤830000:=eb_le he (by omega)
   have hZ7:=hZ6.more (f:=Ls (n - i - 1) (fun j=>T i (1+j)) (s1.cut 2 1 (n - i))) (Ls.stb _ _ _) (Ls.cut (hZ6.get 0 (f:=Ls (1+(n - i)) (T i) s1) rfl) (by omega) (by omega))
   clear hZ6
   go_wp2
   have hM:Zs w wr.drew X0 X [(b,C,30)] [Ls (n - i - 1) (fun j=>T i (1+j)) (s1.cut 2 1 (n - i)),Ls (1+(n - i)) (T i) s1,Fg 2 (EN x) (i+1) n C,Cf bk1 #[.bool dl.b,.slice dl.a dl.n dl.c] 30,dl.is,Mt n (fun i=>1+(n - i)) T tops]∧Below wr.heap.size wr wr.drew:=⟨hZ7.later (Below.refl _ _).drew,(Below.refl _ _).drew⟩
   have hVS7:∀ k,k ∈ ([veq (s1.v),veq (.int .i64 (((n:Nat):Int))),veq (.int .i64 (((i:Nat):Int))),veq (.int .i64 (((n - i:Nat):Int))),veq ((s1.cut 2 1 (n - i)).v),veq (s1.v),veq (.int .i64 (((n:Nat):Int))),veq (.int .i64 (((i:Nat):Int))),veq (.int .i64 (((n - i:Nat):Int))),veq ((s1.at 2 (n - i))),vnum0 (T i (n - i)) X wr,vbox wr.heap.size #[.bool false,.slice none 0 0] 30,veq ((s1.cut 2 1 (n - i)).v)]:List VF)→VSt k:=by
    intro k hk
    simp only [List.mem_cons,List.not_mem_nil,or_false] at hk
    rcases hk with rfl | rfl | rfl | rfl | rfl | rfl | rfl | rfl | rfl | rfl | rfl | rfl | rfl
    ·
     exact veq_st _
    ·
     exact veq_st _
    ·
     exact veq_st _
    ·
     exact veq_st _
    ·
     exact veq_st _
    ·
     exact veq_st _
    ·
     exact veq_st _
    ·
     exact veq_st _
    ·
     exact veq_st _
    ·
     exact veq_st _
    ·
     exact vnum0_st _ _ _
    ·
     exact vbox_st _ _ _
    ·
     exact veq_st _
   refine wp_region_q 13 [some 25,some 26,some 27,some 28,some 29,some 30,some 31,some 32,some 33,some 34,some 35,some 10,some 9] (vzL [veq (s1.v),veq (.int .i64 (((n:Nat):Int))),veq (.int .i64 (((i:Nat):Int))),veq (.int .i64 (((n - i:Nat):Int))),veq ((s1.cut 2 1 (n - i)).v),veq (s1.v),veq (.int .i64 (((n:Nat):Int))),veq (.int .i64 (((i:Nat):Int))),veq (.int .i64 (((n - i:Nat):Int))),veq ((s1.at 2 (n - i))),vnum0 (T i (n - i)) X wr,vbox wr.heap.size #[.bool false,.slice none 0 0] 30,veq ((s1.cut 2 1 (n - i)).v)] X) (fun W=>Zs w W X0 X [(b,C,30)] [Ls (n - i - 1) (fun j=>T i (1+j)) (s1.cut 2 1 (n - i)),Ls (1+(n - i)) (T i) s1,Fg 2 (EN x) (i+1) n C,Cf bk1 #[.bool dl.b,.slice dl.a dl.n dl.c] 30,dl.is,Mt n (fun i=>1+(n - i)) T tops]∧Below wr.heap.size wr W) (by kernel_rfl) (by kernel_rfl) (by rfl) (by decide) (by rfl) hM ?_ ?_
   ·
    intro i hl hi LL uu ww aa hLi hLc hJ hd hev hin hold
    clear hM
    obtain ⟨hJ,hJb⟩:=hJ
    obtain rfl | rfl | rfl | rfl | rfl | rfl | rfl | rfl | rfl | rfl | rfl | rfl | rfl:i=0∨i=1∨i=2∨i=3∨i=4∨i=5∨i=6∨i=7∨i=8∨i=9∨i=10∨i=11∨i=12:=by omega
    ·
     exact .inr ⟨rfl,fun K' hK=>wp_move (.tmp 8) rfl (zet ((hev 8 (by decide)).trans rfl)) (hK _ _ ⟨hJ,hJb⟩ rfl zvs)⟩
    ·
     exact .inr ⟨rfl,fun K' hK=>wp_move (.tmp 5) rfl (zet ((hev 5 (by decide)).trans rfl)) (hK _ _ ⟨hJ,hJb⟩ rfl zvs)⟩
    ·
     exact .inr ⟨rfl,fun K' hK=>wp_move (.tmp 7) rfl (zet ((hev 7 (by decide)).trans rfl)) (hK _ _ ⟨hJ,hJb⟩ rfl zvs)⟩
    ·
     exact .inr ⟨rfl,fun K' hK=>wp_subi (.tmp 26) (.tmp 27) rfl (zet ((hin 1 26 rfl).trans (congrArg some (show uu 1=.int .i64 (((n:Nat):Int)) from hd 1 (by decide) (by kernel_rfl))))) (zet ((hin 2 27 rfl).trans (congrArg some (show uu 2=.int .i64 (((i:Nat):Int)) from hd 2 (by decide) (by kernel_rfl))))) (C:=((n - i:Nat):Int)) (by omega) (by omega) (by omega) (hK _ _ ⟨hJ,hJb⟩ rfl zvs)⟩
    ·
     exact .inr ⟨rfl,fun K' hK=>wp_slc 27 30 2 (.tmp 25) (.const (.int .i64 1)) (.tmp 28) s1 1 (n - i) rfl (zet ((hin 0 25 rfl).trans (congrArg some (show uu 0=s1.v from hd 0 (by decide) (by kernel_rfl))))) rfl (zet ((hin 3 28 rfl).trans (congrArg some (show uu 3=.int .i64 (((n - i:Nat):Int)) from hd 3 (by decide) (by kernel_rfl))))) (by kernel_rfl) sz30 (by omega) (by have h1:=((hJ.get 1 (f:=Ls (1+(n - i)) (T i) s1) rfl)).sq.cap; have h2:=((hJ.get 1 (f:=Ls (1+(n - i)) (T i) s1) rfl)).n; omega) (hK _ _ ⟨hJ,hJb⟩ rfl zvs)⟩
    ·
     exact .inr ⟨rfl,fun K' hK=>wp_move (.tmp 8) rfl (zet ((hev 8 (by decide)).trans rfl)) (hK _ _ ⟨hJ,hJb⟩ rfl zvs)⟩
    ·
     exact .inr ⟨rfl,fun K' hK=>wp_move (.tmp 5) rfl (zet ((hev 5 (by decide)).trans rfl)) (hK _ _ ⟨hJ,hJb⟩ rfl zvs)⟩
    ·
     exact .inr ⟨rfl,fun K' hK=>wp_move (.tmp 7) rfl (zet ((hev 7 (by decide)).trans rfl)) (hK _ _ ⟨hJ,hJb⟩ rfl zvs)⟩
    ·
     exact .inr ⟨rfl,fun K' hK=>wp_subi (.tmp 31) (.tmp 32) rfl (zet ((hin 6 31 rfl).trans (congrArg some (show uu 6=.int .i64 (((n:Nat):Int)) from hd 6 (by decide) (by kernel_rfl))))) (zet ((hin 7 32 rfl).trans (congrArg some (show uu 7=.int .i64 (((i:Nat):Int)) from hd 7 (by decide) (by kernel_rfl))))) (C:=((n - i:Nat):Int)) (by omega) (by omega) (by omega) (hK _ _ ⟨hJ,hJb⟩ rfl zvs)⟩
    ·
     exact .inr ⟨rfl,fun K' hK=>wp_ixs 27 (.tmp 30) (.tmp 33) s1 (n - i) 2 30 rfl (zet ((hin 5 30 rfl).trans (congrArg some (show uu 5=s1.v from hd 5 (by decide) (by kernel_rfl))))) (zet ((hin 8 33 rfl).trans (congrArg some (show uu 8=.int .i64 (((n - i:Nat):Int)) from hd 8 (by decide) (by kernel_rfl))))) (by kernel_rfl) sz30 (fun h=>((hJ.get 1 (f:=Ls (1+(n - i)) (T i) s1) rfl).sq.nil h).1) ((hJ.get 1 (f:=Ls (1+(n - i)) (T i) s1) rfl).n ▸ (by omega)) (hK _ _ ⟨hJ,hJb⟩ rfl zvs)⟩
    ·
     exact .inr ⟨rfl,fun K' hK=>wp_ldn0 30 (.tmp 34) s1 (n - i) ((1+(n - i))) (T i) rfl (zet ((hin 9 34 rfl).trans (congrArg some (show uu 9=(s1.at 2 (n - i)) from hd 9 (by decide) (by kernel_rfl))))) (hZ7.get 1 (f:=Ls (1+(n - i)) (T i) s1) rfl) hJb (by omega) ag30 sz30 (fun q2 ez_q2 hi_q2=>hK _ _ ⟨hJ,hJb⟩ ⟨q2,rfl,ez_q2,hi_q2⟩ zvs)⟩
    ·
     exact .inr ⟨rfl,fun K' hK=>wp_alloc 30 rfl (.agg #[.bool false,.slice none 0 0]) zv30 (hK _ _ ⟨hJ.later (below_new _ _),hJb.alloc (by have:=hJb.size; omega) _⟩ ⟨ww.heap.size,rfl,hJb.size,heap_new ww _⟩ (zvl hVS7 (below_new _ _)))⟩
    ·
     exact .inr ⟨rfl,fun K' hK=>wp_asgn (.tmp 29) rfl (zet ((hin 4 29 rfl).trans (congrArg some (show uu 4=(s1.cut 2 1 (n - i)).v from hd 4 (by decide) (by kernel_rfl))))) (hK _ _ ⟨hJ,hJb⟩ rfl zvs)⟩
   clear hM
   intro uu W3 hZ8p hd
   obtain ⟨hZ8,hb7⟩:=hZ8p
   have e_0:uu 0=s1.v:=hd 0 (by decide)
   have e_1:uu 1=.int .i64 (((n:Nat):Int)):=hd 1 (by decide)
   have e_2:uu 2=.int .i64 (((i:Nat):Int)):=hd 2 (by decide)
   have e_3:uu 3=.int .i64 (((n - i:Nat):Int)):=hd 3 (by decide)
   have e_4:uu 4=(s1.cut 2 1 (n - i)).v:=hd 4 (by decide)
   have e_5:uu 5=s1.v:=hd 5 (by decide)
   have e_6:uu 6=.int .i64 (((n:Nat):Int)):=hd 6 (by decide)
   have e_7:uu 7=.int .i64 (((i:Nat):Int)):=hd 7 (by decide)
   have e_8:uu 8=.int .i64 (((n - i:Nat):Int)):=hd 8 (by decide)
   have e_9:uu 9=(s1.at 2 (n - i)):=hd 9 (by decide)
   obtain ⟨q2,e_10,ez_q2,hi_q20⟩:=(show (vnum0 (T i (n - i)) X wr) (uu 10) X W3 from hd 10 (by decide))
   obtain ⟨bk2,e_11,hge7,hcl7⟩:=(show (vbox wr.heap.size #[.bool false,.slice none 0 0] 30) (uu 11) X W3 from hd 11 (by decide))
   have e_12:uu 12=(s1.cut 2 1 (n - i)).v:=hd 12 (by decide)
   clear hd hVS7
   simp only [layS,Act.put,zzC,zzD,zzE,Nat.zero_add,Nat.reduceAdd,List.drop_succ_cons,List.drop_zero,List.drop_nil,e_0,e_1,e_2,e_3,e_4,e_5,e_6,e_7,e_8,e_9,e_10,e_11,e_12]
   clear e_0 e_1 e_2 e_3 e_4 e_5 e_6 e_7 e_8 e_9 e_10 e_11 e_12
   have hZ9:=hZ7.join hb7 hge7 hcl7
   have hx7:Ext X wr (fun k=>X k∨k=bk2) W3:=⟨hb7.size,fun k hk _=>hb7.block k hk,fun k hk hl=>hk.elim id fun e=>absurd (e ▸ hl) (Nat.not_lt.2 hge7)⟩
   have hi_q2:=q2.stb _ _ _ _ hx7 hi_q20
   clear hi_q20 hZ8 hZ7 hx7 hge7 hcl7
   have hZ10:=hZ9.more (f:=q2.is) q2.stb hi_q2
   clear hZ9 hi_q2
   go_wp2_with (refine zss 30 (.tmp 10) (.tmp 35) 0 bk2 0 #[.bool false,.slice none 0 0] 30 2 [.bool q2.b,.slice q2.a q2.n q2.c] #[.bool q2.b,.slice q2.a q2.n q2.c] [(bk2,#[.bool q2.b,.slice q2.a q2.n q2.c],30),(b,C,30)] rfl rfl rfl rfl sz30 hZ10 rfl rfl (zzF (by kernel_rfl)) (by kernel_rfl) (by kernel_rfl) (by kernel_rfl) (fun W4 hZ11=>?_))
   clear hZ10
   simp only [Stop,Act.put,zzC,zzD,zzE]
   have hZ12:=hZ11.only [q2.is,Ls (1+(n - i)) (T i) s1,Ls (n - i - 1) (fun j=>T i (1+j)) (s1.cut 2 1 (n - i)),Fg 2 (EN x) (i+1) n C,Cf bk1 #[.bool dl.b,.slice dl.a dl.n dl.c] 30,dl.is,Mt n (fun i=>1+(n - i)) T tops] (by simp)
   clear hZ11
   have hZ13:=(hZ12.perm (List.Perm.swap _ _ _)).release hX
   have hpart:Ls (n - (i+1)) (fun j=>x (i+1+j)) ((⟨some ⟨b,0,none⟩,n,n⟩:Sl).cut 2 (i+1) n) (fun k=>(fun k=>X k∨k=bk2) k∧k ≠ b) W4:=hZ12.part HW.out (T:=30) (by simp) (hZ12.get 3 (f:=Fg 2 (EN x) (i+1) n C) rfl) (by omega)
   have hZ14:=hZ13.more (f:=Ls (n - (i+1)) (fun j=>x (i+1+j)) ((⟨some ⟨b,0,none⟩,n,n⟩:Sl).cut 2 (i+1) n)) (Ls.stb _ _ _) hpart
   clear hZ13 hpart
   go_wp2
   have hM:Zs w W4.drew X0 (fun k=>(fun k=>X k∨k=bk2) k∧k ≠ b) [(bk2,#[.bool q2.b,.slice q2.a q2.n q2.c],30)] [Ls (n - (i+1)) (fun j=>x (i+1+j)) ((⟨some ⟨b,0,none⟩,n,n⟩:Sl).cut 2 (i+1) n),Cf b C 30,q2.is,Ls (1+(n - i)) (T i) s1,Ls (n - i - 1) (fun j=>T i (1+j)) (s1.cut 2 1 (n - i)),Fg 2 (EN x) (i+1) n C,Cf bk1 #[.bool dl.b,.slice dl.a dl.n dl.c] 30,dl.is,Mt n (fun i=>1+(n - i)) T tops]∧Below W4.heap.size W4 W4.drew:=⟨hZ14.later (Below.refl _ _).drew,(Below.refl _ _).drew⟩
   have hVS8:∀ k,k ∈ ([veq ((⟨some ⟨b,0,none⟩,n,n⟩:Sl).v),veq (.int .i64 (((i:Nat):Int))),veq (dl.v),veq (q2.v),vnum (D*(T i (n - i))),veq ((s1.cut 2 1 (n - i)).v),veq ((⟨some ⟨b,0,none⟩,n,n⟩:Sl).v),veq (.int .i64 (((i:Nat):Int))),veq (.int .i64 (((i+1:Nat):Int))),veq (((⟨some ⟨b,0,none⟩,n,n⟩:Sl).cut 2 (i+1) n).v),vnum (M.sm (n - i - 1) (fun k=>T i (1+k)*x (i+1+k))),vnum ((D*(T i (n - i))) - (M.sm (n - i - 1) (fun k=>T i (1+k)*x (i+1+k)))),veq (s1.v),veq ((s1.at 2 0)),vnum (T i 0),vnum (Int.fdiv ((D*(T i (n - i))) - (M.sm (n - i - 1) (fun k=>T i (1+k)*x (i+1+k)))) (T i 0)),veq (((⟨some ⟨b,0,none⟩,n,n⟩:Sl).at 2 i))]:List VF)→VSt k:=by
    intro k hk
    simp only [List.mem_cons,List.not_mem_nil,or_false] at hk
    rcases hk with rfl | rfl | rfl | rfl | rfl | rfl | rfl | rfl | rfl | rfl | rfl | rfl | rfl | rfl | rfl | rfl | rfl
    ·
     exact veq_st _
    ·
     exact veq_st _
    ·
     exact veq_st _
    ·
     exact veq_st _
    ·
     exact vnum_st _
    ·
     exact veq_st _
    ·
     exact veq_st _
    ·
     exact veq_st _
    ·
     exact veq_st _
    ·
     exact veq_st _
    ·
     exact vnum_st _
    ·
     exact vnum_st _
    ·
     exact veq_st _
    ·
     exact veq_st _
    ·
     exact vnum_st _
    ·
     exact vnum_st _
    ·
     exact veq_st _
   refine wp_region_q 17 [some 36,some 37,some 38,some 39,some 40,some 41,some 42,some 43,some 44,some 45,some 46,some 47,some 48,some 49,some 50,some 51,some 52] (vzL [veq ((⟨some ⟨b,0,none⟩,n,n⟩:Sl).v),veq (.int .i64 (((i:Nat):Int))),veq (dl.v),veq (q2.v),vnum (D*(T i (n - i))),veq ((s1.cut 2 1 (n - i)).v),veq ((⟨some ⟨b,0,none⟩,n,n⟩:Sl).v),veq (.int .i64 (((i:Nat):Int))),veq (.int .i64 (((i+1:Nat):Int))),veq (((⟨some ⟨b,0,none⟩,n,n⟩:Sl).cut 2 (i+1) n).v),vnum (M.sm (n - i - 1) (fun k=>T i (1+k)*x (i+1+k))),vnum ((D*(T i (n - i))) - (M.sm (n - i - 1) (fun k=>T i (1+k)*x (i+1+k)))),veq (s1.v),veq ((s1.at 2 0)),vnum (T i 0),vnum (Int.fdiv ((D*(T i (n - i))) - (M.sm (n - i - 1) (fun k=>T i (1+k)*x (i+1+k)))) (T i 0)),veq (((⟨some ⟨b,0,none⟩,n,n⟩:Sl).at 2 i))] (fun k=>(fun k=>X k∨k=bk2) k∧k ≠ b)) (fun W=>Zs w W X0 (fun k=>(fun k=>X k∨k=bk2) k∧k ≠ b) [(bk2,#[.bool q2.b,.slice q2.a q2.n q2.c],30)] [Ls (n - (i+1)) (fun j=>x (i+1+j)) ((⟨some ⟨b,0,none⟩,n,n⟩:Sl).cut 2 (i+1) n),Cf b C 30,q2.is,Ls (1+(n - i)) (T i) s1,Ls (n - i - 1) (fun j=>T i (1+j)) (s1.cut 2 1 (n - i)),Fg 2 (EN x) (i+1) n C,Cf bk1 #[.bool dl.b,.slice dl.a dl.n dl.c] 30,dl.is,Mt n (fun i=>1+(n - i)) T tops]∧Below W4.heap.size W4 W) (by kernel_rfl) (by kernel_rfl) (by rfl) (by decide) (by rfl) hM ?_ ?_
   ·
    intro i hl hi LL uu ww aa hLi hLc hJ hd hev hin hold
    clear hM
    obtain ⟨hJ,hJb⟩:=hJ
    obtain rfl | rfl | rfl | rfl | rfl | rfl | rfl | rfl | rfl | rfl | rfl | rfl | rfl | rfl | rfl | rfl | rfl:i=0∨i=1∨i=2∨i=3∨i=4∨i=5∨i=6∨i=7∨i=8∨i=9∨i=10∨i=11∨i=12∨i=13∨i=14∨i=15∨i=16:=by omega
    ·
     exact .inr ⟨rfl,fun K' hK=>wp_move (.tmp 6) rfl (zet ((hev 6 (by decide)).trans rfl)) (hK _ _ ⟨hJ,hJb⟩ rfl zvs)⟩
    ·
     exact .inr ⟨rfl,fun K' hK=>wp_move (.tmp 7) rfl (zet ((hev 7 (by decide)).trans rfl)) (hK _ _ ⟨hJ,hJb⟩ rfl zvs)⟩
    ·
     exact .inr ⟨rfl,fun K' hK=>wp_load 30 (.tmp 3) rfl bk1 0 2 #[.bool dl.b,.slice dl.a dl.n dl.c] #[.bool dl.b,.slice dl.a dl.n dl.c] 30 (hJ.get 6 (f:=Cf bk1 #[.bool dl.b,.slice dl.a dl.n dl.c] 30) rfl).1 (zet ((hev 3 (by decide)).trans rfl)) ag30 sz30 (zzF (by kernel_rfl)) (by kernel_rfl) (hK _ _ ⟨hJ,hJb⟩ rfl zvs)⟩
    ·
     exact .inr ⟨rfl,fun K' hK=>wp_load 30 (.tmp 10) rfl bk2 0 2 #[.bool q2.b,.slice q2.a q2.n q2.c] #[.bool q2.b,.slice q2.a q2.n q2.c] 30 (hJ.es.at' _ (zzG (i:=0) rfl)) (zet ((hev 10 (by decide)).trans rfl)) ag30 sz30 (zzF (by kernel_rfl)) (by kernel_rfl) (hK _ _ ⟨hJ,hJb⟩ rfl zvs)⟩
    ·
     refine .inr ⟨rfl,fun K' hK=>?_⟩
     refine zcz (.func 12) #[.tmp 38,.tmp 39] #[30,30] 12 #[] #[dl.v,q2.v] _ rfl rfl (map2 (zet ((hin 2 38 rfl).trans (congrArg some (show uu 2=dl.v from hd 2 (by decide) (by kernel_rfl))))) (zet ((hin 3 39 rfl).trans (congrArg some (show uu 3=q2.v from hd 3 (by decide) (by kernel_rfl)))))) rfl (fun _ _=>rfl) (zMul hJ.nx (hJ.get 7 (f:=dl.is) rfl) (hJ.get 2 (f:=q2.is) rfl) ez_dl ez_q2 bd (HTi.out.sz (n - i) (by omega)) (by omega) (by omega)) ?_
     rintro zz ww2 ⟨q3,rfl,ez_q3,hi_q3,hB⟩
     exact ⟨_,rfl,hK _ _ ⟨hJ.later hB,hJb.trans (hB.mono hJb.size)⟩ ⟨q3,rfl,ez_q3,hi_q3⟩ (zvl hVS8 hB)⟩
    ·
     exact .inr ⟨rfl,fun K' hK=>wp_move (.tmp 9) rfl (zet ((hev 9 (by decide)).trans rfl)) (hK _ _ ⟨hJ,hJb⟩ rfl zvs)⟩
    ·
     exact .inr ⟨rfl,fun K' hK=>wp_move (.tmp 6) rfl (zet ((hev 6 (by decide)).trans rfl)) (hK _ _ ⟨hJ,hJb⟩ rfl zvs)⟩
    ·
     exact .inr ⟨rfl,fun K' hK=>wp_move (.tmp 7) rfl (zet ((hev 7 (by decide)).trans rfl)) (hK _ _ ⟨hJ,hJb⟩ rfl zvs)⟩
    ·
     exact .inr ⟨rfl,fun K' hK=>wp_addi (.tmp 43) (.const (.int .i64 1)) rfl (zet ((hin 7 43 rfl).trans (congrArg some (show uu 7=.int .i64 (((i:Nat):Int)) from hd 7 (by decide) (by kernel_rfl))))) rfl (C:=((i+1:Nat):Int)) (by omega) (by omega) (by omega) (hK _ _ ⟨hJ,hJb⟩ rfl zvs)⟩
    ·
     exact .inr ⟨rfl,fun K' hK=>wp_slcn 27 30 2 (.tmp 42) (.tmp 44) (⟨some ⟨b,0,none⟩,n,n⟩:Sl) (i+1) rfl (zet ((hin 6 42 rfl).trans (congrArg some (show uu 6=(⟨some ⟨b,0,none⟩,n,n⟩:Sl).v from hd 6 (by decide) (by kernel_rfl))))) (zet ((hin 8 44 rfl).trans (congrArg some (show uu 8=.int .i64 (((i+1:Nat):Int)) from hd 8 (by decide) (by kernel_rfl))))) (by kernel_rfl) sz30 (by show i+1≤n; omega) (hK _ _ ⟨hJ,hJb⟩ rfl zvs)⟩
    ·
     refine .inr ⟨rfl,fun K' hK=>?_⟩
     refine zcz (.func 68) #[.tmp 41,.tmp 45] #[27,27] 68 #[] #[(s1.cut 2 1 (n - i)).v,((⟨some ⟨b,0,none⟩,n,n⟩:Sl).cut 2 (i+1) n).v] _ rfl rfl (map2 (zet ((hin 5 41 rfl).trans (congrArg some (show uu 5=(s1.cut 2 1 (n - i)).v from hd 5 (by decide) (by kernel_rfl))))) (zet ((hin 9 45 rfl).trans (congrArg some (show uu 9=((⟨some ⟨b,0,none⟩,n,n⟩:Sl).cut 2 (i+1) n).v from hd 9 (by decide) (by kernel_rfl)))))) rfl (fun _ _=>rfl) (lInner hJ.nx (s1.cut 2 1 (n - i)) ((⟨some ⟨b,0,none⟩,n,n⟩:Sl).cut 2 (i+1) n) (hJ.get 4 (f:=Ls (n - i - 1) (fun j=>T i (1+j)) (s1.cut 2 1 (n - i))) rfl) (hJ.get 0 (f:=Ls (n - (i+1)) (fun j=>x (i+1+j)) ((⟨some ⟨b,0,none⟩,n,n⟩:Sl).cut 2 (i+1) n)) rfl) (by omega) (e:=eb e i+g) (fun k hk=>((fun (k:Nat) (hk:k < n - i - 1)=>HTi.out.sz (1+k) (by omega)) k hk).mono (Nat.le_add_right _ _)) (fun k hk=>((fun (k:Nat) (hk:k < n - (i+1))=>bx (i+1+k) (by omega)) k (by omega)).mono (Nat.le_add_left _ _)) (by omega) (by omega)) ?_
     rintro zz ww2 ⟨q4,rfl,ez_q4,hi_q4,hB⟩
     exact ⟨_,rfl,hK _ _ ⟨hJ.later hB,hJb.trans (hB.mono hJb.size)⟩ ⟨q4,rfl,ez_q4,hi_q4⟩ (zvl hVS8 hB)⟩
    ·
     obtain ⟨q3,e4,ez_q3,hi_q3⟩:=(show (vnum (D*(T i (n - i)))) (uu 4) (fun k=>(fun k=>X k∨k=bk2) k∧k ≠ b) ww from hd 4 (by decide) (by kernel_rfl))
     obtain ⟨q4,e10,ez_q4,hi_q4⟩:=(show (vnum (M.sm (n - i - 1) (fun k=>T i (1+k)*x (i+1+k)))) (uu 10) (fun k=>(fun k=>X k∨k=bk2) k∧k ≠ b) ww from hd 10 (by decide) (by kernel_rfl))
     replace hJ:=hJ.more (f:=q3.is) q3.stb hi_q3
     replace hJ:=hJ.more (f:=q4.is) q4.stb hi_q4
     refine .inr ⟨rfl,fun K' hK=>?_⟩
     refine zcz (.func 35) #[.tmp 40,.tmp 46] #[30,30] 35 #[] #[q3.v,q4.v] _ rfl rfl (map2 (zet ((hin 4 40 rfl).trans (congrArg some e4))) (zet ((hin 10 46 rfl).trans (congrArg some e10)))) rfl (fun _ _=>rfl) (zSub hJ.nx (hJ.get 1 (f:=q3.is) rfl) (hJ.get 0 (f:=q4.is) rfl) ez_q3 ez_q4 (Sz.mul bd (HTi.out.sz (n - i) (by omega))) (sm_sz (fun k hk=>Sz.mul ((fun (k:Nat) (hk:k < n - i - 1)=>HTi.out.sz (1+k) (by omega)) k hk) ((fun (k:Nat) (hk:k < n - (i+1))=>bx (i+1+k) (by omega)) k (by omega)))) (by omega) (by omega)) ?_
     rintro zz ww2 ⟨q5,rfl,ez_q5,hi_q5,hB⟩
     exact ⟨_,rfl,hK _ _ ⟨(hJ.only [Ls (n - (i+1)) (fun j=>x (i+1+j)) ((⟨some ⟨b,0,none⟩,n,n⟩:Sl).cut 2 (i+1) n),Cf b C 30,q2.is,Ls (1+(n - i)) (T i) s1,Ls (n - i - 1) (fun j=>T i (1+j)) (s1.cut 2 1 (n - i)),Fg 2 (EN x) (i+1) n C,Cf bk1 #[.bool dl.b,.slice dl.a dl.n dl.c] 30,dl.is,Mt n (fun i=>1+(n - i)) T tops] (by simp)).later hB,hJb.trans (hB.mono hJb.size)⟩ ⟨q5,rfl,ez_q5,hi_q5⟩ (zvl hVS8 hB)⟩
    ·
     exact .inr ⟨rfl,fun K' hK=>wp_move (.tmp 8) rfl (zet ((hev 8 (by decide)).trans rfl)) (hK _ _ ⟨hJ,hJb⟩ rfl zvs)⟩
    ·
     exact .inr ⟨rfl,fun K' hK=>wp_ixs 27 (.tmp 48) (.const (.int .i64 0)) s1 0 2 30 rfl (zet ((hin 12 48 rfl).trans (congrArg some (show uu 12=s1.v from hd 12 (by decide) (by kernel_rfl))))) rfl (by kernel_rfl) sz30 (fun h=>((hJ.get 3 (f:=Ls (1+(n - i)) (T i) s1) rfl).sq.nil h).1) ((hJ.get 3 (f:=Ls (1+(n - i)) (T i) s1) rfl).n ▸ (by omega)) (hK _ _ ⟨hJ,hJb⟩ rfl zvs)⟩
    ·
     exact .inr ⟨rfl,fun K' hK=>wp_ldn 30 (.tmp 49) s1 0 ((1+(n - i))) (T i) rfl (zet ((hin 13 49 rfl).trans (congrArg some (show uu 13=(s1.at 2 0) from hd 13 (by decide) (by kernel_rfl))))) (hJ.get 3 (f:=Ls (1+(n - i)) (T i) s1) rfl) (by omega) ag30 sz30 (fun q6 ez_q6 hi_q6=>hK _ _ ⟨hJ,hJb⟩ ⟨q6,rfl,ez_q6,hi_q6⟩ zvs)⟩
    ·
     obtain ⟨q5,e11,ez_q5,hi_q5⟩:=(show (vnum ((D*(T i (n - i))) - (M.sm (n - i - 1) (fun k=>T i (1+k)*x (i+1+k))))) (uu 11) (fun k=>(fun k=>X k∨k=bk2) k∧k ≠ b) ww from hd 11 (by decide) (by kernel_rfl))
     obtain ⟨q6,e14,ez_q6,hi_q6⟩:=(show (vnum (T i 0)) (uu 14) (fun k=>(fun k=>X k∨k=bk2) k∧k ≠ b) ww from hd 14 (by decide) (by kernel_rfl))
     replace hJ:=hJ.more (f:=q5.is) q5.stb hi_q5
     replace hJ:=hJ.more (f:=q6.is) q6.stb hi_q6
     refine .inr ⟨rfl,fun K' hK=>?_⟩
     refine zcz (.func 94) #[.tmp 47,.tmp 50] #[30,30] 94 #[] #[q5.v,q6.v] _ rfl rfl (map2 (zet ((hin 11 47 rfl).trans (congrArg some e11))) (zet ((hin 14 50 rfl).trans (congrArg some e14)))) rfl (fun _ _=>rfl) (lOver hJ.nx q5 q6 ez_q5 ez_q6 (hJ.get 1 (f:=q5.is) rfl) (hJ.get 0 (f:=q6.is) rfl) ((Sz.minus (Sz.mono (Sz.mul bd (HTi.out.sz (n - i) (by omega))) (Nat.le_add_right _ (eb e i+g+(n - i - 1)))) (Sz.mono (sm_sz (fun k hk=>Sz.mul ((fun (k:Nat) (hk:k < n - i - 1)=>HTi.out.sz (1+k) (by omega)) k hk) ((fun (k:Nat) (hk:k < n - (i+1))=>bx (i+1+k) (by omega)) k (by omega)))) (Nat.le_add_left _ (f+(eb e i)))))) ((fun (k:Nat) (hk:k < 1+(n - i))=>HTi.out.sz k (by omega)) 0 (by omega)) (by omega) (by omega) HTi.out.ne) ?_
     rintro zz ww2 ⟨q7,rfl,ez_q7,hi_q7,hB⟩
     exact ⟨_,rfl,hK _ _ ⟨(hJ.only [Ls (n - (i+1)) (fun j=>x (i+1+j)) ((⟨some ⟨b,0,none⟩,n,n⟩:Sl).cut 2 (i+1) n),Cf b C 30,q2.is,Ls (1+(n - i)) (T i) s1,Ls (n - i - 1) (fun j=>T i (1+j)) (s1.cut 2 1 (n - i)),Fg 2 (EN x) (i+1) n C,Cf bk1 #[.bool dl.b,.slice dl.a dl.n dl.c] 30,dl.is,Mt n (fun i=>1+(n - i)) T tops] (by simp)).later hB,hJb.trans (hB.mono hJb.size)⟩ ⟨q7,rfl,ez_q7,hi_q7⟩ (zvl hVS8 hB)⟩
    ·
     exact .inr ⟨rfl,fun K' hK=>wp_ixs 27 (.tmp 36) (.tmp 37) (⟨some ⟨b,0,none⟩,n,n⟩:Sl) i 2 30 rfl (zet ((hin 0 36 rfl).trans (congrArg some (show uu 0=(⟨some ⟨b,0,none⟩,n,n⟩:Sl).v from hd 0 (by decide) (by kernel_rfl))))) (zet ((hin 1 37 rfl).trans (congrArg some (show uu 1=.int .i64 (((i:Nat):Int)) from hd 1 (by decide) (by kernel_rfl))))) (by kernel_rfl) sz30 (fun h=>by cases h) (by show i < n; omega) (hK _ _ ⟨hJ,hJb⟩ rfl zvs)⟩
   clear hM
   intro uu W5 hZ15p hd
   obtain ⟨hZ15,hb8⟩:=hZ15p
   have e_0:uu 0=(⟨some ⟨b,0,none⟩,n,n⟩:Sl).v:=hd 0 (by decide)
   have e_1:uu 1=.int .i64 (((i:Nat):Int)):=hd 1 (by decide)
   have e_2:uu 2=dl.v:=hd 2 (by decide)
   have e_3:uu 3=q2.v:=hd 3 (by decide)
   obtain ⟨q3,e_4,ez_q3,hi_q3⟩:=(show (vnum (D*(T i (n - i)))) (uu 4) (fun k=>(fun k=>X k∨k=bk2) k∧k ≠ b) W5 from hd 4 (by decide))
   have e_5:uu 5=(s1.cut 2 1 (n - i)).v:=hd 5 (by decide)
   have e_6:uu 6=(⟨some ⟨b,0,none⟩,n,n⟩:Sl).v:=hd 6 (by decide)
   have e_7:uu 7=.int .i64 (((i:Nat):Int)):=hd 7 (by decide)
   have e_8:uu 8=.int .i64 (((i+1:Nat):Int)):=hd 8 (by decide)
   have e_9:uu 9=((⟨some ⟨b,0,none⟩,n,n⟩:Sl).cut 2 (i+1) n).v:=hd 9 (by decide)
   obtain ⟨q4,e_10,ez_q4,hi_q4⟩:=(show (vnum (M.sm (n - i - 1) (fun k=>T i (1+k)*x (i+1+k)))) (uu 10) (fun k=>(fun k=>X k∨k=bk2) k∧k ≠ b) W5 from hd 10 (by decide))
   obtain ⟨q5,e_11,ez_q5,hi_q5⟩:=(show (vnum ((D*(T i (n - i))) - (M.sm (n - i - 1) (fun k=>T i (1+k)*x (i+1+k))))) (uu 11) (fun k=>(fun k=>X k∨k=bk2) k∧k ≠ b) W5 from hd 11 (by decide))
   have e_12:uu 12=s1.v:=hd 12 (by decide)
   have e_13:uu 13=(s1.at 2 0):=hd 13 (by decide)
   obtain ⟨q6,e_14,ez_q6,hi_q6⟩:=(show (vnum (T i 0)) (uu 14) (fun k=>(fun k=>X k∨k=bk2) k∧k ≠ b) W5 from hd 14 (by decide))
   obtain ⟨q7,e_15,ez_q7,hi_q7⟩:=(show (vnum (Int.fdiv ((D*(T i (n - i))) - (M.sm (n - i - 1) (fun k=>T i (1+k)*x (i+1+k)))) (T i 0))) (uu 15) (fun k=>(fun k=>X k∨k=bk2) k∧k ≠ b) W5 from hd 15 (by decide))
   have e_16:uu 16=((⟨some ⟨b,0,none⟩,n,n⟩:Sl).at 2 i):=hd 16 (by decide)
   clear hd hVS8
   simp only [layS,Act.put,zzC,zzD,zzE,Nat.zero_add,Nat.reduceAdd,List.drop_succ_cons,List.drop_zero,List.drop_nil,e_0,e_1,e_2,e_3,e_4,e_5,e_6,e_7,e_8,e_9,e_10,e_11,e_12,e_13,e_14,e_15,e_16]
   clear e_0 e_1 e_2 e_3 e_4 e_5 e_6 e_7 e_8 e_9 e_10 e_11 e_12 e_13 e_14 e_15 e_16
   have hZ16:=hZ15.more (f:=q3.is) q3.stb hi_q3
   clear hZ15 hi_q3
   have hZ17:=hZ16.more (f:=q4.is) q4.stb hi_q4
   clear hZ16 hi_q4
   have hZ18:=hZ17.more (f:=q5.is) q5.stb hi_q5
   clear hZ17 hi_q5
   have hZ19:=hZ18.more (f:=q6.is) q6.stb hi_q6
   clear hZ18 hi_q6
   have hZ20:=hZ19.more (f:=q7.is) q7.stb hi_q7
   clear hZ19 hi_q7
   have hZ21:=hZ12.later hb8
   have hq8:q7.is (fun k=>X k∨k=bk2) W5:=NL.apart (hZ20.get 0 (f:=q7.is) rfl) ((hZ21.es.at' (b,C,30) (by simp))) HNO.out
   have hZ22:=(hZ21.perm (List.Perm.swap _ _ _)).more q7.stb hq8
   clear hZ21 hq8 hZ20 hZ12 hb8
   have hx8:q7.z=x i:=ez_q7.trans (back_eq HTi.out (by omega) hsol)
   go_wp2_with (refine stopz_put 30 (.tmp 52) (.tmp 51) (⟨some ⟨b,0,none⟩,n,n⟩:Sl) C i [.bool q7.b,.slice q7.a q7.n q7.c] rfl rfl rfl rfl sz30 rfl (by kernel_rfl) HW.out (by show i < n; omega) (l:=[(bk2,#[.bool q2.b,.slice q2.a q2.n q2.c],30)]) hZ22 (fun C2 W6 hw2 hg2 ho2 hZ23=>?_))
   clear hZ22
   simp only [Stop,Act.put,zzC,zzD,zzE]
   have hfg:Fg 2 (EN x) i n C2 (fun k=>X k∨k=bk2) W6:=Fg.cons (hZ23.get 4 (f:=Fg 2 (EN x) (i+1) n C) rfl) rfl ho2 hg2 ⟨q7,hx8,hZ23.get 0 (f:=q7.is) rfl,rfl⟩
   have hno2:NoI C2:=HNO.out.put hg2 ho2 (noI_two _ _ (fun _ _ h=>by cases h) (fun _ _ h=>by cases h))
   have hZ24:=((hZ23.more (Fg.stb (EN.stb x) _ _ _) hfg).drop (l':=[(b,C2,30)]) (List.Sublist.cons_cons _ (List.nil_sublist _))).only [Fg 2 (EN x) i n C2,Cf bk1 #[.bool dl.b,.slice dl.a dl.n dl.c] 30,dl.is,Mt n (fun i=>1+(n - i)) T tops] (by simp)
   clear hZ23 hfg
   go_wp2_with (refine zso rfl (fun K hK=>wp_subi (.tmp 19) (.const (.int .i64 1)) rfl rfl rfl (C:=(((i:Nat):Int) - 1)) (by omega) (by omega) (by omega) (hK _ _ ?_)))
   simp only [Stop,Act.put,zzC,zzD,zzE]
   go_wp2
   go_roundw
   case rel=>exact ⟨i,_,C2,_,by omega,rfl,rfl,hno2,hw2,hZ24⟩
   case measure=>simp [intOf]
  ·
   obtain rfl:d=0:=by omega
   obtain rfl:z=-1:=by omega
   go_wp2_with (refine zso rfl (fun K hK=>wp_geqi (.tmp 17) (.const (.int .i64 0)) rfl rfl rfl (r:=false) (decide_eq_false (by omega)) (hK _ _ ?_)))
   simp only [Stop,Act.put,zzC,zzD,zzE]
   go_wp2
   go_ret
   exact ⟨(⟨some ⟨b,0,none⟩,n,n⟩:Sl),rfl,⟨rfl,hZ.sq hX (EN.stb x) HW.out (T:=30) (fun p hp=>hp) (fun j hj=>hZ.get 0 (f:=Fg 2 (EN x) 0 n C) rfl j (Nat.zero_le _) hj)⟩,hZ.below⟩
theorem results_tct {P:Program} {w W:World} {l:List (Nat × Array Value × TypeId)} {fn:Func} {tmps:Array Value} {t0 t t1 n b:Nat} {T T':TypeId} {C D:Array Value} {v u:Value} (k:Nat) (hf:fn.results=#[.tmp t0,.cell t T,.tmp t1]) (h:Es w W l) (hj:l[k]?=some (b,C,T')) (hagg:∀ W,(isAgg T).run P W=.ok true W) (hn:∀ W,(sizeOf T).run P W=.ok n W) (hs:n≤C.size) (hp:tmps.getD t undef=.pointer (some ⟨b,0,none⟩)) (hv:tmps.getD t0 undef=v) (hu:tmps.getD t1 undef=u) (hD:C.extract 0 (0+n)=D):(results fn tmps).run P W=.ok (.tuple #[v,.agg D,u]) W:=by
 have hl:=run_loadAgg (P:=P) (T:=T) (off:=0) (h.at' _ (List.mem_of_getElem? hj)) hagg hn (by omega)
 rw [hD] at hl
 have hl2:(loadVar T ⟨b,0,none⟩).run P W=.ok (.agg D) W:=by
  unfold Instr.loadAt at hl
  have hsa:(Instr.sureAddr (.pointer (some ⟨b,0,none⟩))).run P W=.ok ⟨b,0,none⟩ W:=rfl
  simpa only [Sem.run_bind,hsa,Result.andThen] using hl
 unfold results
 rw [hf]
 have hp':tmps[t]?.getD undef=.pointer (some ⟨b,0,none⟩):=by rw [← Array.getD_eq_getD_getElem?]; exact hp
 have hv':tmps[t0]?.getD undef=v:=by rw [← Array.getD_eq_getD_getElem?]; exact hv
 have hu':tmps[t1]?.getD undef=u:=by rw [← Array.getD_eq_getD_getElem?]; exact hu
 simp [hp',hv',hu',asAddr,Sem.run_bind,hl2,Result.andThen,Sem.run_pure]
/-- How many parts a determinant may have. -/
def dtb (e:Nat):Nat→Nat
 | 0=>1
 | n+1=>e+dtb e n+(n+1)
theorem dt_sz {e:Nat}:∀ {n:Nat} {f:Nat→Nat→Int},(∀ i j,i < n→j < n→Sz e (f i j))→Sz (dtb e n) (M.dt n f)
 | 0,_,_=>sz_one
 | n+1,f,h=>by
  rw [M.dt]
  have key:∀ {i:Nat} {g:Nat→Int} {q:Nat},(∀ k,k < i→Sz q (g k))→Sz (q+i) (M.sm i g):=by
   intro i
   induction i with
   | zero=>intro g q _; exact sz_zero _
   | succ i ih =>
    intro g q hg
    rw [M.sm]
    exact Sz.plus (ih fun k hk=>hg k (by omega)) ((hg i (by omega)).mono (Nat.le_add_right _ _))
  refine key fun i hi=>?_
  refine Sz.mul ?_ (dt_sz fun a b ha hb=>h _ _ (M.sk_lt ha) (by omega))
  have h1:=h i 0 hi (by omega)
  unfold M.sg
  split
  ·
   rw [Int.one_mul]; exact h1
  ·
   rw [show (-1:Int)*f i 0=- f i 0 by omega]; exact h1.neg
theorem dtb_le {e n:Nat} (he:e≤200) (hn:n≤12):dtb e n≤3000:=by
 have key:∀ n,dtb e n≤1+n*(e+n):=by
  intro n
  induction n with
  | zero=>simp [dtb]
  | succ n ih =>
   rw [dtb,Nat.add_mul]
   have:n*(e+n)≤n*(e+(n+1)):=Nat.mul_le_mul_left _ (by omega)
   omega
 have h1:=key n
 have h2:n*(e+n)≤12*212:=Nat.mul_le_mul hn (by omega)
 omega
/-- What Solve tells where there are as many numbers as rows. -/
def crx (m:Nat) (A:Nat→Nat→Int) (b:Nat→Int) (j:Nat):Int:=M.dt m (M.cl' A j b)
theorem bsd_dt (m:Nat) (A:Nat→Nat→Int) (b:Nat→Int):M.dt m (bsd m A b)=M.dt m A:=M.dt_congr fun i j _ hj=>by unfold bsd; rw [if_pos hj]
theorem bsd_sol (m:Nat) (A:Nat→Nat→Int) (b:Nat→Int):Sol m (bsd m A b) (crx m A b) (M.dt m A):=by
 intro a ha
 have h:=M.cramer A b ha
 have e1:bsd m A b a m=b a:=by unfold bsd; rw [if_neg (Nat.lt_irrefl m)]
 rw [e1,← h]
 exact M.sm_congr fun j hj=>by unfold bsd crx; rw [if_pos hj]
theorem bsd_sz {m e:Nat} {A:Nat→Nat→Int} {b:Nat→Int} (hA:∀ i j,i < m→j < m→Sz e (A i j)) (hb:∀ i,i < m→Sz e (b i)):∀ i j,i < m→j < 1+m→Sz e (bsd m A b i j):=fun i j hi hj=>by
 unfold bsd
 split
 ·
  exact hA i j hi (by omega)
 ·
  exact hb i hi
theorem crx_sz {m e:Nat} {A:Nat→Nat→Int} {b:Nat→Int} (hA:∀ i j,i < m→j < m→Sz e (A i j)) (hb:∀ i,i < m→Sz e (b i)) (j:Nat):Sz (dtb e m) (crx m A b j):=dt_sz fun i k hi hk=>by
 unfold M.cl'
 split
 ·
  exact hb i hi
 ·
  exact hA i k hi hk
theorem tri_ne {X:Nat→Prop} {m c e:Nat} {A:Nat→Nat→Int} {w w':World} {en:Ending} (hD:M.dt m A ≠ 0) (h:PTri X m c e A w en w'):∃ (s:Sl) (p:NL) (T:Nat→Nat→Int),en=.returned (.tuple #[s.v,p.v])∧p.z=M.dt m A∧p.is X w'∧Mt m (fun i=>c+(m - i)) T s X w'∧(∀ i,i < m→Top m c e A i (T i))∧Below w.heap.size w w':=by
 obtain ⟨s,p,h1,h2,h3,h4,h5⟩:=h
 obtain ⟨T,h6,h7⟩:=h4 hD
 exact ⟨s,p,T,h1,h2,h3,h6,h7,h5⟩
/-- The equations' solution, times the determinant; or that it is 0. -/
def PSolN (X:Nat→Prop) (m:Nat) (x:Nat→Int) (D:Int) (w:World) (en:Ending) (w':World):Prop:=∃ (s:Sl) (p:NL),en=.returned (.tuple #[s.v,p.v,.int .i64 0])∧Ls m x s X w'∧p.z=D∧p.is X w'∧Below w.heap.size w w'
set_option maxRecDepth 100000 in
set_option maxHeartbeats 12800000 in
theorem lSolN {X0:Nat→Prop} {w:World} (hX:NX X0 w) (a bs:Sl) {m e:Nat} {A:Nat→Nat→Int} {b:Nat→Int} (hm:m≤12) (he1:1≤e) (he:e≤200) (ha:Mt m (fun _=>m) A a X0 w) (hb_:Ls m b bs X0 w) (bA:∀ i j,i < m→j < m→Sz e (A i j)) (bb:∀ i,i < m→Sz e (b i)) (hD:M.dt m A ≠ 0):Calls Tryz.prog 50 #[a.v,bs.v] w (PSolN X0 m (crx m A b) (M.dt m A) w):=by
 have hdb:dtb e m≤3000:=dtb_le he hm
 have HD:=Lib.hid hD
 clear hD
 have hZ0:=zs_start hX
 have hZ1:=hZ0.more (f:=Mt m (fun _=>m) A a) (Mt.stb _ _ _ _) ha
 clear hZ0
 have hZ2:=hZ1.more (f:=Ls m b bs) (Ls.stb _ _ _) hb_
 clear hZ1
 go_enter Tryz.func50,Tryz.ntmps50
 go_wp2_with (refine zsa 30 #[.bool false,.slice none 0 0] (.agg #[.bool false,.slice none 0 0]) rfl rfl zv30 rfl hZ2 (fun bk1 X3 W1 hZ3=>?_))
 clear hZ2
 simp only [Stop,Act.put,zzC,zzD,zzE]
 go_wp2_with (refine zso rfl (fun K hK=>wp_lenq (.tmp 9) 27 30 bs rfl (by kernel_rfl) rfl (hZ3.get 0 (f:=Ls m b bs) rfl).n (hK _ _ ?_)))
 simp only [Stop,Act.put,zzC,zzD,zzE]
 go_wp2_with (refine zso rfl (fun K hK=>wp_lenq (.tmp 11) 26 27 a rfl (by kernel_rfl) rfl (hZ3.get 1 (f:=Mt m (fun _=>m) A a) rfl).n (hK _ _ ?_)))
 simp only [Stop,Act.put,zzC,zzD,zzE]
 go_wp2_with (refine zso rfl (fun K hK=>wp_neqi (.tmp 10) (.tmp 12) 3 3 rfl rfl rfl rfl (r:=false) (decide_eq_false (by simp)) (hK _ _ ?_)))
 simp only [Stop,Act.put,zzC,zzD,zzE]
 go_wp2_with fail
 refine (lBeside hZ3.nx a bs (by omega) (hZ3.get 1 (f:=Mt m (fun _=>m) A a) rfl) (hZ3.get 0 (f:=Ls m b bs) rfl)).mono ?_
 rintro zz W2 ⟨s1,rfl,hi_s1,hB⟩
 have hZ4:=hZ3.later hB
 clear hB hZ3
 have hZ5:=hZ4.more (f:=Mt m (fun _=>m+1) (bsd m A b) s1) (Mt.stb _ _ _ _) hi_s1
 clear hZ4 hi_s1
 go_wp2_with fail
 refine ((lTri (c:=1) hZ5.nx s1 (by omega) (by omega) he1 he ((hZ5.get 0 (f:=Mt m (fun _=>m+1) (bsd m A b) s1) rfl).congr (fun _ _=>Nat.add_comm _ _) (fun _ _ _ _=>rfl)) (bsd_sz bA bb)).mono (fun _ _ h=>tri_ne (by rw [bsd_dt]; exact HD.out) h)).mono ?_
 rintro zz W3 ⟨st,pt,T,rfl,ez_pt,hi_pt,hi_st,hTop,hB⟩
 have hZ6:=hZ5.later hB
 clear hB hZ5
 have hZ7:=hZ6.more (f:=pt.is) pt.stb hi_pt
 clear hZ6 hi_pt
 have hZ8:=hZ7.more (f:=Mt m (fun i=>1+(m - i)) T st) (Mt.stb _ _ _ _) hi_st
 clear hZ7 hi_st
 go_wp2_with (refine zsa 30 #[.bool false,.slice none 0 0] (.agg #[.bool false,.slice none 0 0]) rfl rfl zv30 rfl hZ8 (fun bk2 X9 W4 hZ9=>?_))
 clear hZ8
 simp only [Stop,Act.put,zzC,zzD,zzE]
 go_wp2_with (refine zss 30 (.tmp 8) (.tmp 21) 0 bk2 0 #[.bool false,.slice none 0 0] 30 2 [.bool pt.b,.slice pt.a pt.n pt.c] #[.bool pt.b,.slice pt.a pt.n pt.c] [(bk2,#[.bool pt.b,.slice pt.a pt.n pt.c],30),(bk1,#[.bool false,.slice none 0 0],30)] rfl rfl rfl rfl sz30 hZ9 rfl rfl (zzF (by kernel_rfl)) (by kernel_rfl) (by kernel_rfl) (by kernel_rfl) (fun W5 hZ10=>?_))
 clear hZ9
 simp only [Stop,Act.put,zzC,zzD,zzE]
 go_wp2_with (refine zso rfl (fun K hK=>wp_load 30 (.tmp 8) rfl bk2 0 2 #[.bool pt.b,.slice pt.a pt.n pt.c] #[.bool pt.b,.slice pt.a pt.n pt.c] 30 (hZ10.es.at' _ (zzG (i:=0) rfl)) rfl ag30 sz30 (zzF (by kernel_rfl)) (by kernel_rfl) (hK _ _ ?_)))
 simp only [Stop,Act.put,zzC,zzD,zzE]
 go_wp2_with fail
 refine (zSign (hZ10.get 1 (f:=pt.is) rfl) ez_pt).mono ?_
 rintro zz W6 ⟨rfl,hB⟩
 have hZ11:=hZ10.later hB
 clear hB hZ10
 go_wp2_with (refine zso rfl (fun K hK=>wp_eqli (.tmp 23) (.const (.int .i64 0)) 3 3 rfl rfl rfl rfl (r:=false) (decide_eq_false (by show sgnI _ ≠ 0; rw [bsd_dt,sgnI_ne]; exact HD.out)) (hK _ _ ?_)))
 simp only [Stop,Act.put,zzC,zzD,zzE]
 go_wp2
 have hM:Zs w W6.drew X0 X9 [(bk2,#[.bool pt.b,.slice pt.a pt.n pt.c],30),(bk1,#[.bool false,.slice none 0 0],30)] [Mt m (fun i=>1+(m - i)) T st,pt.is,Mt m (fun _=>m+1) (bsd m A b) s1,Ls m b bs,Mt m (fun _=>m) A a]∧Below W6.heap.size W6 W6.drew:=⟨hZ11.later (Below.refl _ _).drew,(Below.refl _ _).drew⟩
 clear hZ11
 have hVS6:∀ k,k ∈ ([veq (st.v),veq (pt.v),vls m (crx m A b),veq (pt.v),vls m (crx m A b)]:List VF)→VSt k:=by
  intro k hk
  simp only [List.mem_cons,List.not_mem_nil,or_false] at hk
  rcases hk with rfl | rfl | rfl | rfl | rfl
  ·
   exact veq_st _
  ·
   exact veq_st _
  ·
   exact vls_st _ _
  ·
   exact veq_st _
  ·
   exact vls_st _ _
 refine wp_region_q 5 [some 26,some 27,some 28,some 29,some 4] (vzL [veq (st.v),veq (pt.v),vls m (crx m A b),veq (pt.v),vls m (crx m A b)] X9) (fun W=>Zs w W X0 X9 [(bk2,#[.bool pt.b,.slice pt.a pt.n pt.c],30),(bk1,#[.bool false,.slice none 0 0],30)] [Mt m (fun i=>1+(m - i)) T st,pt.is,Mt m (fun _=>m+1) (bsd m A b) s1,Ls m b bs,Mt m (fun _=>m) A a]∧Below W6.heap.size W6 W) (by kernel_rfl) (by kernel_rfl) (by rfl) (by decide) (by rfl) hM ?_ ?_
 ·
  intro i hl hi LL uu ww aa hLi hLc hJ hd hev hin hold
  clear hM
  obtain ⟨hJ,hJb⟩:=hJ
  obtain rfl | rfl | rfl | rfl | rfl:i=0∨i=1∨i=2∨i=3∨i=4:=by omega
  ·
   exact .inr ⟨rfl,fun K' hK=>wp_move (.tmp 7) rfl (zet ((hev 7 (by decide)).trans rfl)) (hK _ _ ⟨hJ,hJb⟩ rfl zvs)⟩
  ·
   exact .inr ⟨rfl,fun K' hK=>wp_load 30 (.tmp 8) rfl bk2 0 2 #[.bool pt.b,.slice pt.a pt.n pt.c] #[.bool pt.b,.slice pt.a pt.n pt.c] 30 (hJ.es.at' _ (zzG (i:=0) rfl)) (zet ((hev 8 (by decide)).trans rfl)) ag30 sz30 (zzF (by kernel_rfl)) (by kernel_rfl) (hK _ _ ⟨hJ,hJb⟩ rfl zvs)⟩
  ·
   refine .inr ⟨rfl,fun K' hK=>?_⟩
   refine zcz (.func 82) #[.tmp 26,.tmp 27] #[25,30] 82 #[] #[st.v,pt.v] _ rfl rfl (map2 (zet ((hin 0 26 rfl).trans (congrArg some (show uu 0=st.v from hd 0 (by decide) (by kernel_rfl))))) (zet ((hin 1 27 rfl).trans (congrArg some (show uu 1=pt.v from hd 1 (by decide) (by kernel_rfl)))))) rfl (fun _ _=>rfl) (lBack hJ.nx st pt (f:=dtb e m) (g:=dtb e m) (A:=bsd m A b) (x:=crx m A b) (D:=M.dt m A) (by omega) he (by omega) (by omega) (hJ.get 0 (f:=Mt m (fun i=>1+(m - i)) T st) rfl) (hJ.get 1 (f:=pt.is) rfl) (ez_pt.trans (bsd_dt m A b)) (by rw [← bsd_dt m A b]; exact (dt_sz (fun i j hi hj=>bsd_sz bA bb i j hi (by omega)))) hTop (bsd_sol m A b) (fun j _=>crx_sz bA bb j)) ?_
   rintro zz ww2 ⟨s2,rfl,hi_s2,hB⟩
   exact ⟨_,rfl,hK _ _ ⟨hJ.later hB,hJb.trans (hB.mono hJb.size)⟩ ⟨s2,rfl,hi_s2⟩ (zvl hVS6 hB)⟩
  ·
   exact .inr ⟨rfl,fun K' hK=>wp_load 30 (.tmp 8) rfl bk2 0 2 #[.bool pt.b,.slice pt.a pt.n pt.c] #[.bool pt.b,.slice pt.a pt.n pt.c] 30 (hJ.es.at' _ (zzG (i:=0) rfl)) (zet ((hev 8 (by decide)).trans rfl)) ag30 sz30 (zzF (by kernel_rfl)) (by kernel_rfl) (hK _ _ ⟨hJ,hJb⟩ rfl zvs)⟩
  ·
   obtain ⟨s2,e2,hi_s2⟩:=(show (vls m (crx m A b)) (uu 2) X9 ww from hd 2 (by decide) (by kernel_rfl))
   replace hJ:=hJ.more (f:=Ls m (crx m A b) s2) (Ls.stb _ _ _) hi_s2
   exact .inr ⟨rfl,fun K' hK=>wp_asgn (.tmp 28) rfl (zet ((hin 2 28 rfl).trans (congrArg some e2))) (hK _ _ ⟨(hJ.only [Mt m (fun i=>1+(m - i)) T st,pt.is,Mt m (fun _=>m+1) (bsd m A b) s1,Ls m b bs,Mt m (fun _=>m) A a] (by simp)),hJb⟩ ⟨s2,rfl,hi_s2⟩ zvs)⟩
 clear hM
 intro uu W7 hZ12p hd
 obtain ⟨hZ12,hb6⟩:=hZ12p
 have e_0:uu 0=st.v:=hd 0 (by decide)
 have e_1:uu 1=pt.v:=hd 1 (by decide)
 obtain ⟨s2,e_2,hi_s2⟩:=(show (vls m (crx m A b)) (uu 2) X9 W7 from hd 2 (by decide))
 have e_3:uu 3=pt.v:=hd 3 (by decide)
 obtain ⟨s2_4,e_4,hi_s2_4⟩:=(show (vls m (crx m A b)) (uu 4) X9 W7 from hd 4 (by decide))
 clear hd hVS6
 simp only [layS,Act.put,zzC,zzD,zzE,Nat.zero_add,Nat.reduceAdd,List.drop_succ_cons,List.drop_zero,List.drop_nil,e_0,e_1,e_2,e_3,e_4]
 clear e_0 e_1 e_2 e_3 e_4
 have hZ13:=hZ12.more (f:=Ls m (crx m A b) s2) (Ls.stb _ _ _) hi_s2
 clear hZ12 hi_s2
 have hZ14:=hZ13.more (f:=Ls m (crx m A b) s2_4) (Ls.stb _ _ _) hi_s2_4
 clear hZ13 hi_s2_4
 go_wp2_with (refine zss 30 (.tmp 5) (.tmp 29) 1 bk1 0 #[.bool false,.slice none 0 0] 30 2 [.bool pt.b,.slice pt.a pt.n pt.c] #[.bool pt.b,.slice pt.a pt.n pt.c] [(bk2,#[.bool pt.b,.slice pt.a pt.n pt.c],30),(bk1,#[.bool pt.b,.slice pt.a pt.n pt.c],30)] rfl rfl rfl rfl sz30 hZ14 rfl rfl (zzF (by kernel_rfl)) (by kernel_rfl) (by kernel_rfl) (by kernel_rfl) (fun W8 hZ15=>?_))
 clear hZ14
 simp only [Stop,Act.put,zzC,zzD,zzE]
 go_wp2
 exact bodyPost_ret (v:=.tuple #[s2_4.v,.agg #[.bool pt.b,.slice pt.a pt.n pt.c],.int .i64 0]) (results_tct 1 Tryz.results50 hZ15.es rfl ag30 sz30 (zzF (by kernel_rfl)) rfl rfl rfl (by kernel_rfl)) rfl ⟨s2_4,pt,rfl,hZ15.out 0 (f:=Ls m (crx m A b) s2_4) rfl,ez_pt.trans (bsd_dt m A b),hZ15.out 3 (f:=pt.is) rfl,hZ15.below⟩
theorem ei23:EInf Tryz.prog 23 2 1 (.int .i64 0) 8:=⟨by kernel_rfl,by kernel_rfl,by kernel_rfl,by decide,by decide⟩
theorem ei22:EInf Tryz.prog 22 23 1 (.slice none 0 0) 24:=⟨by kernel_rfl,by kernel_rfl,by kernel_rfl,by decide,by decide⟩
def l2 (a b:Int) (i:Nat):Int:=if i=0 then a else b
def m2 (x y:Nat→Int) (i j:Nat):Int:=if i=0 then x j else y j
theorem run_bslt {P:Program} {t e:TypeId} {by_:Nat} {z:Value} (hI:EInf P t e 1 z by_) (u v:Value) (hu:u.cells=#[u]) (hv:v.cells=#[v]) (W:World):(Instr.buildSlice t 2 #[(0,u),(1,v)]).run P W=.ok (.slice (some ⟨W.heap.size,0,none⟩) 2 2) (W.alloc (.cells #[u,v] e)):=by
 obtain ⟨i,hi,hz,hs,hb⟩:=info_parts hI.hi
 simp [Instr.buildSlice,run_underlying hI.ht,sizeOf,typeInfo,hi,hs,zeroValue,hz,Instr.fill,newRow,hu,hv,set2]
section
variable {P:Program} {ops:Array Oper} {Q:Exit→Act→World→Prop} {a:Act} {w W:World} {rest:List Oper} {o:Oper} {l:List (Nat × Array Value × TypeId)} {X0 X:Nat→Prop} {fs:List Fa}
theorem wp_bslt {next:Act→World→Prop} {t e:TypeId} {by_:Nat} {z:Value} (hI:EInf P t e 1 z by_) (x y:Operand) (ho:o.op=.buildSlice t 2 #[(0,x),(1,y)]) {u v:Value} (hx:a.eval x=u) (hy:a.eval y=v) (hu:u.cells=#[u]) (hv:v.cells=#[v]) (k:next (a.put o.dst (.slice (some ⟨W.heap.size,0,none⟩) 2 2)) (W.alloc (.cells #[u,v] e))):o.wp P a W next Q:=by
 have e:(execOp a.eval o).run P W=.ok (.value (.slice (some ⟨W.heap.size,0,none⟩) 2 2)) (W.alloc (.cells #[u,v] e)):=by
  unfold execOp
  rw [ho]
  simp only [List.map_toArray,List.map_cons,List.map_nil,hx,hy,Sem.run_bind,run_bslt hI u v hu hv,Result.andThen]
  rfl
 unfold Oper.wp
 rw [e]
 exact k
theorem sq_two {E:El} {u v:Value} {T:TypeId} (hx:NX X W) (h0:E X (W.alloc (.cells #[u,v] T)) 0 [u]) (h1:E X (W.alloc (.cells #[u,v] T)) 1 [v]):Sq 1 E ⟨some ⟨W.heap.size,0,none⟩,2,2⟩ X (W.alloc (.cells #[u,v] T)):=by
 have h:(W.alloc (.cells #[u,v] T)).heap[W.heap.size]?=some (.cells #[u,v] T (0,0)):=heap_new W _
 refine ⟨Nat.le_refl _,by show 2≤maxLen; unfold maxLen; omega,nofun,fun q hq _=>?_,fun q hq i hi=>?_⟩
 ·
  cases hq
  exact ⟨rfl,(Array.getElem?_eq_some_iff.1 h).1,fun hX=>Nat.lt_irrefl _ (hx _ hX)⟩
 ·
  cases hq
  simp only at hi
  obtain rfl | rfl:i=0∨i=1:=by omega
  ·
   refine ⟨[u],rfl,fun j hj=>?_,h0⟩
   obtain rfl:j=0:=by omega
   simp only [World.cell?,h]
   rfl
  ·
   refine ⟨[v],rfl,fun j hj=>?_,h1⟩
   obtain rfl:j=0:=by omega
   simp only [World.cell?,h]
   rfl
theorem stopz_bi2 {t e:TypeId} {by_:Nat} {z:Value} (hI:EInf P t e 1 z by_) (x y:Operand) {p q:Int} (hg:o.guard=none) (ho:o.op=.buildSlice t 2 #[(0,x),(1,y)]) (hx:a.eval x=.int .i64 p) (hy:a.eval y=.int .i64 q) (h:Zs w W X0 X l fs) (K:∀ (s:Sl) (W':World),Zs w W' X0 X l (Li 2 (l2 p q) s :: fs)→Stop (wpList P ops Q rest (a.put o.dst s.v) W')):wpList P ops Q (o :: rest) a W :=
 wpList_plain hg fun K' hK=>wp_bslt hI x y ho hx hy rfl rfl (hK _ _ (K ⟨some ⟨W.heap.size,0,none⟩,2,2⟩ _ ((h.later (below_new _ _)).more (Li.stb _ _ _) ⟨rfl,sq_two h.nx rfl rfl⟩)))
theorem stopz_bm2 {t e:TypeId} {by_:Nat} {z:Value} (hI:EInf P t e 1 z by_) (x y:Operand) {r s:Sl} {f g:Nat→Int} (hg:o.guard=none) (ho:o.op=.buildSlice t 2 #[(0,x),(1,y)]) (hx:a.eval x=r.v) (hy:a.eval y=s.v) (h:Zs w W X0 X l fs) (hr:Li 2 f r X W) (hs:Li 2 g s X W) (K:∀ (u:Sl) (W':World),Zs w W' X0 X l (Mi 2 (fun _=>2) (m2 f g) u :: fs)→Stop (wpList P ops Q rest (a.put o.dst u.v) W')):wpList P ops Q (o :: rest) a W :=
 wpList_plain hg fun K' hK=>wp_bslt hI x y ho hx hy rfl rfl (hK _ _ (K ⟨some ⟨W.heap.size,0,none⟩,2,2⟩ _ ((h.later (below_new _ _)).more (Mi.stb _ _ _ _) ⟨rfl,sq_two h.nx ⟨r,Li.stb _ _ _ _ _ _ _ (Ext.below X (below_new _ _)) hr,rfl⟩ ⟨s,Li.stb _ _ _ _ _ _ _ (Ext.below X (below_new _ _)) hs,rfl⟩⟩)))
end
theorem l2_in {a b:Int} (ha:-9≤a∧a≤9) (hb:-9≤b∧b≤9) (i:Nat):-9223372036854775808≤l2 a b i∧l2 a b i≤9223372036854775807:=by unfold l2; split <;> omega
theorem m2_in {a b c d:Int} (ha:-9≤a∧a≤9) (hb:-9≤b∧b≤9) (hc:-9≤c∧c≤9) (hd:-9≤d∧d≤9) (i j:Nat):-9223372036854775808≤m2 (l2 a b) (l2 c d) i j∧m2 (l2 a b) (l2 c d) i j≤9223372036854775807:=by
 unfold m2
 split
 ·
  exact l2_in ha hb j
 ·
  exact l2_in hc hd j
theorem xl_in {k:Nat} {x:Nat→Int} (h:∀ i,i < k→-9223372036854775808≤x i∧x i≤9223372036854775807) (i:Nat):Sz 2 (xl k x i):=by
 unfold xl
 split
 ·
  next hi=>exact sz_int (h i hi).1 (h i hi).2
 ·
  exact sz_zero _
theorem a_det:M.dt 2 (m2 (l2 2 1) (l2 1 3))=5:=by rw [M.dt_two]; decide
theorem txt_5:Txt 5 [53]:=⟨by decide +kernel,by decide +kernel⟩
theorem a_txt:decT (M.dt 2 (m2 (l2 2 1) (l2 1 3)))=[53]:=by rw [a_det]; exact (decT_eq txt_5).symm
theorem a_def:Sym 2 (m2 (l2 2 1) (l2 1 3))∧∀ k,k < 2→0 < M.dt (k+1) (m2 (l2 2 1) (l2 1 3)):=by
 refine ⟨fun i j hi hj=>?_,fun k hk=>?_⟩
 ·
  obtain rfl | rfl:i=0∨i=1:=by omega
  ·
   obtain rfl | rfl:j=0∨j=1:=by omega
   ·
    rfl
   ·
    decide
  ·
   obtain rfl | rfl:j=0∨j=1:=by omega
   ·
    decide
   ·
    rfl
 ·
  obtain rfl | rfl:k=0∨k=1:=by omega
  ·
   rw [dt_one]; decide
  ·
   rw [a_det]; decide
theorem zv32 (W:World):(zeroValue 32).run Tryz.prog W=.ok (.agg #[.slice none 0 0,.slice none 0 0,.bool false,.slice none 0 0]) W:=by kernel_rfl
theorem sz32 (W:World):(sizeOf 32).run Tryz.prog W=.ok 4 W:=by kernel_rfl
theorem ag32 (W:World):(isAgg 32).run Tryz.prog W=.ok true W:=by kernel_rfl
theorem zv40 (W:World):(zeroValue 40).run Tryz.prog W=.ok (.agg #[.slice none 0 0,.slice none 0 0,.bool false,.slice none 0 0]) W:=by kernel_rfl
theorem sz40 (W:World):(sizeOf 40).run Tryz.prog W=.ok 4 W:=by kernel_rfl
theorem ag40 (W:World):(isAgg 40).run Tryz.prog W=.ok true W:=by kernel_rfl
theorem zv3 (W:World):(zeroValue 3).run Tryz.prog W=.ok (.int .i64 0) W:=by kernel_rfl
section
variable {P:Program} {Q:Exit→Act→World→Prop} {a:Act} {W:World} {o:Oper} {next:Act→World→Prop}
end
/-- A function is handed back. -/
def PUX (X:Nat→Prop) (n:Nat) (P:Nat→Nat→Int) (q:Nat→Int) (C:Int) (w:World) (e:Ending) (w':World):Prop:=∃ (p s:Sl) (c:NL),e=.returned (.agg #[p.v,s.v,.bool c.b,.slice c.a c.n c.c])∧Mt n (fun _=>n) P p X w'∧Ls n q s X w'∧c.z=C∧c.is X w'∧Below w.heap.size w w'
/-- All numbers of a function in one. -/
def tbl (n:Nat) (P:Nat→Nat→Int) (q:Nat→Int) (C:Int) (i j:Nat):Int:=if i < n then (if j < n then P i j else q i) else (if j < n then q j else C)
namespace M
variable {n:Nat} {F:(Nat→Nat→Int)→Int}
end M
end Go.Proofs.YtjclllindbfmhabGreatDoor
