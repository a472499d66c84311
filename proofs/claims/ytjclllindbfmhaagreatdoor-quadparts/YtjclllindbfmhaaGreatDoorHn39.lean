/- Parts of the proof. -/
import Derived.Test.YtjclllindbfmhaaGreatDoorHn0
import Derived.Test.YtjclllindbfmhaaGreatDoorHn38
import Derived.Test.YtjclllindbfmhaaGreatDoorHn30
import Derived.Test.YtjclllindbfmhaaGreatDoorHn22
import Derived.Test.YtjclllindbfmhaaGreatDoorHn28
import Derived.Test.YtjclllindbfmhaaGreatDoorHn27
set_option linter.unusedSimpArgs false
set_option linter.unusedVariables false
namespace Go.Proofs.YtjclllindbfmhaaGreatDoor
/- The laws' helpers whole, wholes of layer 8. No statement of the seat is proved here. -/
open Go Go.RowKit
/-- A function's text. -/
noncomputable def whU (n:Nat) (P:Nat→Nat→Int) (q:Nat→Int) (C:Int):List UInt8:=((whL n (fun _=>n) P++txL n q)++[59])++decT C
set_option maxRecDepth 100000 in
set_option maxHeartbeats 12800000 in
theorem tWhole {X0:Nat→Prop} {w:World} (hX:NX X0 w) (p s:Sl) (c:NL) {n e:Nat} {P:Nat→Nat→Int} {q:Nat→Int} {C:Int} (hp:Mt n (fun _=>n) P p X0 w) (hq:Ls n q s X0 w) (hc:c.is X0 w) (ez_c:c.z=C) (bP:∀ i j,i < n→j < n→Sz e (P i j)) (bq:∀ i,i < n→Sz e (q i)) (bC:Sz e C) (hn:n≤100) (he:e≤900000):Calls Tryz.prog 11 #[.agg #[p.v,s.v,.bool c.b,.slice c.a c.n c.c]] w (PVal (.string ⟨(whU n P q C).toArray⟩) w):=by
 have hZ0:=zs_start hX
 have hZ1:=hZ0.more (f:=c.is) c.stb hc
 clear hZ0
 have hZ2:=hZ1.more (f:=Ls n q s) (Ls.stb _ _ _) hq
 clear hZ1
 have hZ3:=hZ2.more (f:=Mt n (fun _=>n) P p) (Mt.stb _ _ _ _) hp
 clear hZ2
 go_enter Tryz.func11,Tryz.ntmps11
 go_wp2_with (refine zsb 32 (.tmp 0) #[p.v,s.v,.bool c.b,.slice c.a c.n c.c] rfl rfl rfl hZ3 (fun bk1 X4 W1 hZ4=>?_))
 clear hZ3
 simp only [Stop,Act.put,zzC,zzD,zzE]
 have hZ5:=hZ4.release hX
 clear hZ4
 have hZ6:=hZ5.only [Cf bk1 #[p.v,s.v,.bool c.b,.slice c.a c.n c.c] 32,c.is,Ls n q s,Mt n (fun _=>n) P p] (by simp)
 clear hZ5
 have hl2:(txL n q).length≤n*(10*e+3):=txL_len (fun k hk=>bq k hk)
 have hl3:(decT C).length≤10*e+2:=decT_len bC
 have hl6:n*(10*e+3)≤100*9000003:=Nat.mul_le_mul (by omega) (by omega)
 go_wp2
 go_loopw [3,4] (fun sv iv wr=>∃ i:Nat,i≤n∧iv=.int .i64 ((i:Nat):Int)∧sv=.string ⟨(whL i (fun _=>n) P).toArray⟩∧∃ X:Nat→Prop,Zs w wr X0 X [] [Cf bk1 #[p.v,s.v,.bool c.b,.slice c.a c.n c.c] 32,c.is,Ls n q s,Mt n (fun _=>n) P p]) (fun _ iv _=>n - (intOf iv).toNat)
 case atStart=>exact ⟨0,by omega,rfl,rfl,_,hZ6⟩
 case round =>
  clear hZ6
  obtain ⟨i,hi,rfl,rfl,X,hZ⟩:=hrel
  have hl1:(whL i (fun _=>n) P).length≤i*(100*(10*e+3)+1):=whL_len (fun k hk=>by omega) (fun x y hx hy=>bP x y (by omega) hy)
  have hl7:i*(100*(10*e+3)+1)≤100*(100*9000003+1):=Nat.mul_le_mul (by omega) (by omega)
  by_cases hlt:i < n
  ·
   have hl4:(txL n (P i)).length≤n*(10*e+3):=txL_len (fun k hk=>bP i k hlt hk)
   have hl5:(whL i (fun _=>n) P++txL n (P i)).length≤100*(100*9000003+1)+100*9000003:=by rw [List.length_append]; omega
   go_wp2_with (refine zso rfl (fun K hK=>wp_fda (v:=.pointer (some ⟨bk1,0,none⟩)) 32 (.tmp 1) 0 rfl rfl (fun _=>by kernel_rfl) (hK _ _ ?_)))
   simp only [Stop,Act.put,zzC,zzD,zzE]
   go_wp2_with (refine zso rfl (fun K hK=>wp_load1 (v:=p.v) 26 (.tmp 6) rfl bk1 0 #[p.v,s.v,.bool c.b,.slice c.a c.n c.c] 32 (hZ.get 0 (f:=Cf bk1 #[p.v,s.v,.bool c.b,.slice c.a c.n c.c] 32) rfl).1 rfl ag26 (by kernel_rfl) (hK _ _ ?_)))
   simp only [Stop,Act.put,zzC,zzD,zzE]
   go_wp2_with (refine zso rfl (fun K hK=>wp_lenq (.tmp 7) 26 27 p rfl (by kernel_rfl) rfl (hZ.get 3 (f:=Mt n (fun _=>n) P p) rfl).n (hK _ _ ?_)))
   simp only [Stop,Act.put,zzC,zzD,zzE]
   go_wp2_with (refine zso rfl (fun K hK=>wp_lssi (.tmp 5) (.tmp 8) rfl rfl rfl (r:=true) (decide_eq_true (by omega)) (hK _ _ ?_)))
   simp only [Stop,Act.put,zzC,zzD,zzE]
   go_wp2_with (refine zso rfl (fun K hK=>wp_fda (v:=.pointer (some ⟨bk1,0,none⟩)) 32 (.tmp 1) 0 rfl rfl (fun _=>by kernel_rfl) (hK _ _ ?_)))
   simp only [Stop,Act.put,zzC,zzD,zzE]
   go_wp2_with (refine zso rfl (fun K hK=>wp_load1 (v:=p.v) 26 (.tmp 13) rfl bk1 0 #[p.v,s.v,.bool c.b,.slice c.a c.n c.c] 32 (hZ.get 0 (f:=Cf bk1 #[p.v,s.v,.bool c.b,.slice c.a c.n c.c] 32) rfl).1 rfl ag26 (by kernel_rfl) (hK _ _ ?_)))
   simp only [Stop,Act.put,zzC,zzD,zzE]
   go_wp2_with (refine zso rfl (fun K hK=>wp_ixs 26 (.tmp 14) (.tmp 15) p i 1 27 rfl rfl rfl (by kernel_rfl) sz27 (fun h=>((hZ.get 3 (f:=Mt n (fun _=>n) P p) rfl).sq.nil h).1) ((hZ.get 3 (f:=Mt n (fun _=>n) P p) rfl).n ▸ (by omega)) (hK _ _ ?_)))
   simp only [Stop,Act.put,zzC,zzD,zzE]
   go_wp2_with (refine zso rfl (fun K hK=>wp_ldm 27 (.tmp 16) p i n (fun _=>n) P rfl rfl (hZ.get 3 (f:=Mt n (fun _=>n) P p) rfl) (by omega) ag27 (fun s1 hi_s1=>hK _ _ ?_)))
   simp only [Stop,Act.put,zzC,zzD,zzE]
   have hZ7:=hZ.more (f:=Ls n (P i) s1) (Ls.stb _ _ _) hi_s1
   clear hZ hi_s1
   go_wp2_with fail
   refine (tText hZ7.nx s1 (hZ7.get 0 (f:=Ls n (P i) s1) rfl) (fun k hk=>bP i k (by omega) hk) (by omega) (by omega)).mono ?_
   rintro zz W2 ⟨rfl,hB⟩
   have hZ8:=hZ7.later hB
   clear hB hZ7
   have hZ9:=hZ8.only [Cf bk1 #[p.v,s.v,.bool c.b,.slice c.a c.n c.c] 32,c.is,Ls n q s,Mt n (fun _=>n) P p] (by simp)
   clear hZ8
   go_wp2_with (refine zso rfl (fun K hK=>wp_addi (.tmp 10) (.const (.int .i64 1)) rfl rfl rfl (C:=((i+1:Nat):Int)) (by omega) (by omega) (by omega) (hK _ _ ?_)))
   simp only [Stop,Act.put,zzC,zzD,zzE]
   go_wp2
   go_roundw
   case rel=>exact ⟨i+1,by omega,by go_num,by rw [whL,← ByteArray.mk_append_mk,← ByteArray.mk_append_mk],_,hZ9⟩
   case measure=>simp [intOf]; omega
  ·
   obtain rfl:n=i:=by omega
   go_wp2_with (refine zso rfl (fun K hK=>wp_fda (v:=.pointer (some ⟨bk1,0,none⟩)) 32 (.tmp 1) 0 rfl rfl (fun _=>by kernel_rfl) (hK _ _ ?_)))
   simp only [Stop,Act.put,zzC,zzD,zzE]
   go_wp2_with (refine zso rfl (fun K hK=>wp_load1 (v:=p.v) 26 (.tmp 6) rfl bk1 0 #[p.v,s.v,.bool c.b,.slice c.a c.n c.c] 32 (hZ.get 0 (f:=Cf bk1 #[p.v,s.v,.bool c.b,.slice c.a c.n c.c] 32) rfl).1 rfl ag26 (by kernel_rfl) (hK _ _ ?_)))
   simp only [Stop,Act.put,zzC,zzD,zzE]
   go_wp2_with (refine zso rfl (fun K hK=>wp_lenq (.tmp 7) 26 27 p rfl (by kernel_rfl) rfl (hZ.get 3 (f:=Mt n (fun _=>n) P p) rfl).n (hK _ _ ?_)))
   simp only [Stop,Act.put,zzC,zzD,zzE]
   go_wp2_with (refine zso rfl (fun K hK=>wp_lssi (.tmp 5) (.tmp 8) rfl rfl rfl (r:=false) (decide_eq_false (Int.lt_irrefl _)) (hK _ _ ?_)))
   simp only [Stop,Act.put,zzC,zzD,zzE]
   go_wp2
   obtain ⟨XR6,hZ10⟩:∃ Xr,Zs w wr X0 Xr [] [Cf bk1 #[p.v,s.v,.bool c.b,.slice c.a c.n c.c] 32,c.is,Ls n q s,Mt n (fun _=>n) P p]:=⟨_,hZ⟩
   clear hZ
   refine zrp 10 [some 21,some 22,some 23,some 24,some 25,some 26,some 27,some 28,some 29,some 30] [veq (.string ⟨(whL n (fun _=>n) P).toArray⟩),veq (.pointer (some ⟨bk1,1,none⟩)),veq (s.v),veq (.string ⟨(txL n q).toArray⟩),veq (.string ⟨((whL n (fun _=>n) P++txL n q)).toArray⟩),veq (.string ⟨(((whL n (fun _=>n) P++txL n q)++([59]:List UInt8))).toArray⟩),veq (.pointer (some ⟨bk1,2,none⟩)),veq (c.v),veq (.string ⟨(decT C).toArray⟩),veq (.string ⟨((((whL n (fun _=>n) P++txL n q)++([59]:List UInt8))++decT C)).toArray⟩)] (by kernel_rfl) (by kernel_rfl) (by rfl) (by decide) (by rfl) hZ10 ?_ ?_
   ·
    intro iq hlq hiq LL uu ww aa hLi hLc hJ hd hall hev hin hold
    clear hZ10
    obtain rfl | rfl | rfl | rfl | rfl | rfl | rfl | rfl | rfl | rfl:iq=0∨iq=1∨iq=2∨iq=3∨iq=4∨iq=5∨iq=6∨iq=7∨iq=8∨iq=9:=by omega
    ·
     exact oz rfl (fun _ hK=>wp_move (.tmp 3) rfl (zet ((hev 3 (by decide)).trans rfl)) (hK _ _ hJ rfl vsm))
    ·
     exact oz rfl (fun _ hK=>wp_fda (v:=.pointer (some ⟨bk1,1,none⟩)) 32 (.tmp 1) 1 rfl (zet ((hev 1 (by decide)).trans rfl)) (fun _=>by kernel_rfl) (hK _ _ hJ rfl vsm))
    ·
     exact oz rfl (fun _ hK=>wp_load1 (v:=s.v) 27 (.tmp 22) rfl bk1 1 #[p.v,s.v,.bool c.b,.slice c.a c.n c.c] 32 (hJ.get 0 (f:=Cf bk1 #[p.v,s.v,.bool c.b,.slice c.a c.n c.c] 32) rfl).1 (zj (hin 1 22 rfl) (show uu 1=.pointer (some ⟨bk1,1,none⟩) from (hd 1 (by kernel_rfl)))) ag27 (by kernel_rfl) (hK _ _ hJ rfl vsm))
    ·
     refine oz rfl (fun _ hK=>zcz (.func 18) #[.tmp 23] #[27] 18 #[] #[s.v] _ rfl rfl (map1 (zj (hin 2 23 rfl) (show uu 2=s.v from (hd 2 (by kernel_rfl))))) rfl (fun _ _=>rfl) (tText hJ.nx s (hJ.get 2 (f:=Ls n q s) rfl) bq (by omega) (by omega)) ?_)
     rintro zz ww2 ⟨rfl,hB⟩
     exact ⟨_,rfl,hK _ _ (hJ.later hB) rfl (vlat hB)⟩
    ·
     exact oz rfl (fun _ hK=>wp_sadd (.tmp 21) (.tmp 24) 9 9 rfl rfl (zj (hin 0 21 rfl) (show uu 0=.string ⟨(whL n (fun _=>n) P).toArray⟩ from (hd 0 (by kernel_rfl)))) (zj (hin 3 24 rfl) (show uu 3=.string ⟨(txL n q).toArray⟩ from (hd 3 (by kernel_rfl)))) (by first | omega | (simp only [List.length_append,List.length_cons,List.length_nil]; omega)) (hK _ _ hJ rfl vsm))
    ·
     exact oz rfl (fun _ hK=>wp_sadd (.tmp 25) (.const (.string ⟨([59]).toArray⟩)) 9 9 rfl rfl (zj (hin 4 25 rfl) (show uu 4=.string ⟨((whL n (fun _=>n) P++txL n q)).toArray⟩ from (hd 4 (by kernel_rfl)))) rfl (by first | omega | (simp only [List.length_append,List.length_cons,List.length_nil]; omega)) (hK _ _ hJ rfl vsm))
    ·
     exact oz rfl (fun _ hK=>wp_fda (v:=.pointer (some ⟨bk1,2,none⟩)) 32 (.tmp 1) 2 rfl (zet ((hev 1 (by decide)).trans rfl)) (fun _=>by kernel_rfl) (hK _ _ hJ rfl vsm))
    ·
     exact oz rfl (fun _ hK=>wp_load 30 (.tmp 27) rfl bk1 2 2 #[p.v,s.v,.bool c.b,.slice c.a c.n c.c] #[.bool c.b,.slice c.a c.n c.c] 32 (hJ.get 0 (f:=Cf bk1 #[p.v,s.v,.bool c.b,.slice c.a c.n c.c] 32) rfl).1 (zj (hin 6 27 rfl) (show uu 6=.pointer (some ⟨bk1,2,none⟩) from (hd 6 (by kernel_rfl)))) ag30 sz30 (zzF (by kernel_rfl)) (by kernel_rfl) (hK _ _ hJ rfl vsm))
    ·
     refine oz rfl (fun _ hK=>zcz (.func 17) #[.tmp 28] #[30] 17 #[] #[c.v] _ rfl rfl (map1 (zj (hin 7 28 rfl) (show uu 7=c.v from (hd 7 (by kernel_rfl))))) rfl (fun _ _=>rfl) ((zStr (hJ.get 1 (f:=c.is) rfl) ez_c bC (by omega)).mono (fun _ _ h=>ptxt_dec h)) ?_)
     rintro zz ww2 ⟨rfl,hB⟩
     exact ⟨_,rfl,hK _ _ (hJ.later hB) rfl (vlat hB)⟩
    ·
     exact oz rfl (fun _ hK=>wp_sadd (.tmp 26) (.tmp 29) 9 9 rfl rfl (zj (hin 5 26 rfl) (show uu 5=.string ⟨(((whL n (fun _=>n) P++txL n q)++([59]:List UInt8))).toArray⟩ from (hd 5 (by kernel_rfl)))) (zj (hin 8 29 rfl) (show uu 8=.string ⟨(decT C).toArray⟩ from (hd 8 (by kernel_rfl)))) (by first | omega | (simp only [List.length_append,List.length_cons,List.length_nil]; omega)) (hK _ _ hJ rfl vsm))
   clear hZ10
   intro uu W3 hZ11 hd
   have e_0:uu 0=.string ⟨(whL n (fun _=>n) P).toArray⟩:=hd 0 (by decide)
   have e_1:uu 1=.pointer (some ⟨bk1,1,none⟩):=hd 1 (by decide)
   have e_2:uu 2=s.v:=hd 2 (by decide)
   have e_3:uu 3=.string ⟨(txL n q).toArray⟩:=hd 3 (by decide)
   have e_4:uu 4=.string ⟨((whL n (fun _=>n) P++txL n q)).toArray⟩:=hd 4 (by decide)
   have e_5:uu 5=.string ⟨(((whL n (fun _=>n) P++txL n q)++([59]:List UInt8))).toArray⟩:=hd 5 (by decide)
   have e_6:uu 6=.pointer (some ⟨bk1,2,none⟩):=hd 6 (by decide)
   have e_7:uu 7=c.v:=hd 7 (by decide)
   have e_8:uu 8=.string ⟨(decT C).toArray⟩:=hd 8 (by decide)
   have e_9:uu 9=.string ⟨((((whL n (fun _=>n) P++txL n q)++([59]:List UInt8))++decT C)).toArray⟩:=hd 9 (by decide)
   clear hd
   simp only [layS,Act.put,zzC,zzD,zzE,Nat.zero_add,Nat.reduceAdd,List.drop_succ_cons,List.drop_zero,List.drop_nil,e_0,e_1,e_2,e_3,e_4,e_5,e_6,e_7,e_8,e_9]
   clear e_0 e_1 e_2 e_3 e_4 e_5 e_6 e_7 e_8 e_9
   go_wp2
   go_ret
   exact ⟨rfl,hZ11.below⟩
set_option maxRecDepth 100000 in
set_option maxHeartbeats 12800000 in
theorem tWholes {X0:Nat→Prop} {w:World} (hX:NX X0 w) (p s:Sl) (c:NL) {n e:Nat} {P:Nat→Nat→Int} {q:Nat→Int} {C:Int} (hp:Mr n (fun _=>n) P p X0 w) (hq:Lr n q s X0 w) (hc:c.ir X0 w) (ez_c:c.z=C) (bP:∀ i j,i < n→j < n→Sz e (P i j)) (bq:∀ i,i < n→Sz e (q i)) (bC:Sz e C) (hn:n≤100) (he:e≤900000):Calls Tryz.prog 12 #[.agg #[p.v,s.v,.bool c.b,.slice c.a c.n c.c]] w (PVal (.string ⟨(whU n P q C).toArray⟩) w):=by
 have hZ0:=zs_start hX
 have hZ1:=hZ0.more (f:=c.ir) c.stbr hc
 clear hZ0
 have hZ2:=hZ1.more (f:=Lr n q s) (Lr.stb _ _ _) hq
 clear hZ1
 have hZ3:=hZ2.more (f:=Mr n (fun _=>n) P p) (Mr.stb _ _ _ _) hp
 clear hZ2
 go_enter Tryz.func12,Tryz.ntmps12
 go_wp2_with (refine zsb 45 (.tmp 0) #[p.v,s.v,.bool c.b,.slice c.a c.n c.c] rfl rfl rfl hZ3 (fun bk1 X4 W1 hZ4=>?_))
 clear hZ3
 simp only [Stop,Act.put,zzC,zzD,zzE]
 have hZ5:=hZ4.release hX
 clear hZ4
 have hZ6:=hZ5.only [Cf bk1 #[p.v,s.v,.bool c.b,.slice c.a c.n c.c] 45,c.ir,Lr n q s,Mr n (fun _=>n) P p] (by simp)
 clear hZ5
 have hl2:(txL n q).length≤n*(10*e+3):=txL_len (fun k hk=>bq k hk)
 have hl3:(decT C).length≤10*e+2:=decT_len bC
 have hl6:n*(10*e+3)≤100*9000003:=Nat.mul_le_mul (by omega) (by omega)
 go_wp2
 go_loopw [3,4] (fun sv iv wr=>∃ i:Nat,i≤n∧iv=.int .i64 ((i:Nat):Int)∧sv=.string ⟨(whL i (fun _=>n) P).toArray⟩∧∃ X:Nat→Prop,Zs w wr X0 X [] [Cf bk1 #[p.v,s.v,.bool c.b,.slice c.a c.n c.c] 45,c.ir,Lr n q s,Mr n (fun _=>n) P p]) (fun _ iv _=>n - (intOf iv).toNat)
 case atStart=>exact ⟨0,by omega,rfl,rfl,_,hZ6⟩
 case round =>
  clear hZ6
  obtain ⟨i,hi,rfl,rfl,X,hZ⟩:=hrel
  have hl1:(whL i (fun _=>n) P).length≤i*(100*(10*e+3)+1):=whL_len (fun k hk=>by omega) (fun x y hx hy=>bP x y (by omega) hy)
  have hl7:i*(100*(10*e+3)+1)≤100*(100*9000003+1):=Nat.mul_le_mul (by omega) (by omega)
  by_cases hlt:i < n
  ·
   have hl4:(txL n (P i)).length≤n*(10*e+3):=txL_len (fun k hk=>bP i k hlt hk)
   have hl5:(whL i (fun _=>n) P++txL n (P i)).length≤100*(100*9000003+1)+100*9000003:=by rw [List.length_append]; omega
   go_wp2_with (refine zso rfl (fun K hK=>wp_fda (v:=.pointer (some ⟨bk1,0,none⟩)) 45 (.tmp 1) 0 rfl rfl (fun _=>by kernel_rfl) (hK _ _ ?_)))
   simp only [Stop,Act.put,zzC,zzD,zzE]
   go_wp2_with (refine zso rfl (fun K hK=>wp_load1 (v:=p.v) 39 (.tmp 6) rfl bk1 0 #[p.v,s.v,.bool c.b,.slice c.a c.n c.c] 45 (hZ.get 0 (f:=Cf bk1 #[p.v,s.v,.bool c.b,.slice c.a c.n c.c] 45) rfl).1 rfl ag39 (by kernel_rfl) (hK _ _ ?_)))
   simp only [Stop,Act.put,zzC,zzD,zzE]
   go_wp2_with (refine zso rfl (fun K hK=>wp_lenq (.tmp 7) 39 40 p rfl (by kernel_rfl) rfl (hZ.get 3 (f:=Mr n (fun _=>n) P p) rfl).n (hK _ _ ?_)))
   simp only [Stop,Act.put,zzC,zzD,zzE]
   go_wp2_with (refine zso rfl (fun K hK=>wp_lssi (.tmp 5) (.tmp 8) rfl rfl rfl (r:=true) (decide_eq_true (by omega)) (hK _ _ ?_)))
   simp only [Stop,Act.put,zzC,zzD,zzE]
   go_wp2_with (refine zso rfl (fun K hK=>wp_fda (v:=.pointer (some ⟨bk1,0,none⟩)) 45 (.tmp 1) 0 rfl rfl (fun _=>by kernel_rfl) (hK _ _ ?_)))
   simp only [Stop,Act.put,zzC,zzD,zzE]
   go_wp2_with (refine zso rfl (fun K hK=>wp_load1 (v:=p.v) 39 (.tmp 13) rfl bk1 0 #[p.v,s.v,.bool c.b,.slice c.a c.n c.c] 45 (hZ.get 0 (f:=Cf bk1 #[p.v,s.v,.bool c.b,.slice c.a c.n c.c] 45) rfl).1 rfl ag39 (by kernel_rfl) (hK _ _ ?_)))
   simp only [Stop,Act.put,zzC,zzD,zzE]
   go_wp2_with (refine zso rfl (fun K hK=>wp_ixs 39 (.tmp 14) (.tmp 15) p i 1 40 rfl rfl rfl (by kernel_rfl) sz40 (fun h=>((hZ.get 3 (f:=Mr n (fun _=>n) P p) rfl).sq.nil h).1) ((hZ.get 3 (f:=Mr n (fun _=>n) P p) rfl).n ▸ (by omega)) (hK _ _ ?_)))
   simp only [Stop,Act.put,zzC,zzD,zzE]
   go_wp2_with (refine zso rfl (fun K hK=>wp_ldmr 40 (.tmp 16) p i n (fun _=>n) P rfl rfl (hZ.get 3 (f:=Mr n (fun _=>n) P p) rfl) (by omega) ag40 (fun s1 hi_s1=>hK _ _ ?_)))
   simp only [Stop,Act.put,zzC,zzD,zzE]
   have hZ7:=hZ.more (f:=Lr n (P i) s1) (Lr.stb _ _ _) hi_s1
   clear hZ hi_s1
   go_wp2_with fail
   refine (tTexts hZ7.nx s1 (hZ7.get 0 (f:=Lr n (P i) s1) rfl) (fun k hk=>bP i k (by omega) hk) (by omega) (by omega)).mono ?_
   rintro zz W2 ⟨rfl,hB⟩
   have hZ8:=hZ7.later hB
   clear hB hZ7
   have hZ9:=hZ8.only [Cf bk1 #[p.v,s.v,.bool c.b,.slice c.a c.n c.c] 45,c.ir,Lr n q s,Mr n (fun _=>n) P p] (by simp)
   clear hZ8
   go_wp2_with (refine zso rfl (fun K hK=>wp_addi (.tmp 10) (.const (.int .i64 1)) rfl rfl rfl (C:=((i+1:Nat):Int)) (by omega) (by omega) (by omega) (hK _ _ ?_)))
   simp only [Stop,Act.put,zzC,zzD,zzE]
   go_wp2
   go_roundw
   case rel=>exact ⟨i+1,by omega,by go_num,by rw [whL,← ByteArray.mk_append_mk,← ByteArray.mk_append_mk],_,hZ9⟩
   case measure=>simp [intOf]; omega
  ·
   obtain rfl:n=i:=by omega
   go_wp2_with (refine zso rfl (fun K hK=>wp_fda (v:=.pointer (some ⟨bk1,0,none⟩)) 45 (.tmp 1) 0 rfl rfl (fun _=>by kernel_rfl) (hK _ _ ?_)))
   simp only [Stop,Act.put,zzC,zzD,zzE]
   go_wp2_with (refine zso rfl (fun K hK=>wp_load1 (v:=p.v) 39 (.tmp 6) rfl bk1 0 #[p.v,s.v,.bool c.b,.slice c.a c.n c.c] 45 (hZ.get 0 (f:=Cf bk1 #[p.v,s.v,.bool c.b,.slice c.a c.n c.c] 45) rfl).1 rfl ag39 (by kernel_rfl) (hK _ _ ?_)))
   simp only [Stop,Act.put,zzC,zzD,zzE]
   go_wp2_with (refine zso rfl (fun K hK=>wp_lenq (.tmp 7) 39 40 p rfl (by kernel_rfl) rfl (hZ.get 3 (f:=Mr n (fun _=>n) P p) rfl).n (hK _ _ ?_)))
   simp only [Stop,Act.put,zzC,zzD,zzE]
   go_wp2_with (refine zso rfl (fun K hK=>wp_lssi (.tmp 5) (.tmp 8) rfl rfl rfl (r:=false) (decide_eq_false (Int.lt_irrefl _)) (hK _ _ ?_)))
   simp only [Stop,Act.put,zzC,zzD,zzE]
   go_wp2
   obtain ⟨XR6,hZ10⟩:∃ Xr,Zs w wr X0 Xr [] [Cf bk1 #[p.v,s.v,.bool c.b,.slice c.a c.n c.c] 45,c.ir,Lr n q s,Mr n (fun _=>n) P p]:=⟨_,hZ⟩
   clear hZ
   refine zrp 10 [some 21,some 22,some 23,some 24,some 25,some 26,some 27,some 28,some 29,some 30] [veq (.string ⟨(whL n (fun _=>n) P).toArray⟩),veq (.pointer (some ⟨bk1,1,none⟩)),veq (s.v),veq (.string ⟨(txL n q).toArray⟩),veq (.string ⟨((whL n (fun _=>n) P++txL n q)).toArray⟩),veq (.string ⟨(((whL n (fun _=>n) P++txL n q)++([59]:List UInt8))).toArray⟩),veq (.pointer (some ⟨bk1,2,none⟩)),veq (c.v),veq (.string ⟨(decT C).toArray⟩),veq (.string ⟨((((whL n (fun _=>n) P++txL n q)++([59]:List UInt8))++decT C)).toArray⟩)] (by kernel_rfl) (by kernel_rfl) (by rfl) (by decide) (by rfl) hZ10 ?_ ?_
   ·
    intro iq hlq hiq LL uu ww aa hLi hLc hJ hd hall hev hin hold
    clear hZ10
    obtain rfl | rfl | rfl | rfl | rfl | rfl | rfl | rfl | rfl | rfl:iq=0∨iq=1∨iq=2∨iq=3∨iq=4∨iq=5∨iq=6∨iq=7∨iq=8∨iq=9:=by omega
    ·
     exact oz rfl (fun _ hK=>wp_move (.tmp 3) rfl (zet ((hev 3 (by decide)).trans rfl)) (hK _ _ hJ rfl vsm))
    ·
     exact oz rfl (fun _ hK=>wp_fda (v:=.pointer (some ⟨bk1,1,none⟩)) 45 (.tmp 1) 1 rfl (zet ((hev 1 (by decide)).trans rfl)) (fun _=>by kernel_rfl) (hK _ _ hJ rfl vsm))
    ·
     exact oz rfl (fun _ hK=>wp_load1 (v:=s.v) 40 (.tmp 22) rfl bk1 1 #[p.v,s.v,.bool c.b,.slice c.a c.n c.c] 45 (hJ.get 0 (f:=Cf bk1 #[p.v,s.v,.bool c.b,.slice c.a c.n c.c] 45) rfl).1 (zj (hin 1 22 rfl) (show uu 1=.pointer (some ⟨bk1,1,none⟩) from (hd 1 (by kernel_rfl)))) ag40 (by kernel_rfl) (hK _ _ hJ rfl vsm))
    ·
     refine oz rfl (fun _ hK=>zcz (.func 23) #[.tmp 23] #[40] 23 #[] #[s.v] _ rfl rfl (map1 (zj (hin 2 23 rfl) (show uu 2=s.v from (hd 2 (by kernel_rfl))))) rfl (fun _ _=>rfl) (tTexts hJ.nx s (hJ.get 2 (f:=Lr n q s) rfl) bq (by omega) (by omega)) ?_)
     rintro zz ww2 ⟨rfl,hB⟩
     exact ⟨_,rfl,hK _ _ (hJ.later hB) rfl (vlat hB)⟩
    ·
     exact oz rfl (fun _ hK=>wp_sadd (.tmp 21) (.tmp 24) 9 9 rfl rfl (zj (hin 0 21 rfl) (show uu 0=.string ⟨(whL n (fun _=>n) P).toArray⟩ from (hd 0 (by kernel_rfl)))) (zj (hin 3 24 rfl) (show uu 3=.string ⟨(txL n q).toArray⟩ from (hd 3 (by kernel_rfl)))) (by first | omega | (simp only [List.length_append,List.length_cons,List.length_nil]; omega)) (hK _ _ hJ rfl vsm))
    ·
     exact oz rfl (fun _ hK=>wp_sadd (.tmp 25) (.const (.string ⟨([59]).toArray⟩)) 9 9 rfl rfl (zj (hin 4 25 rfl) (show uu 4=.string ⟨((whL n (fun _=>n) P++txL n q)).toArray⟩ from (hd 4 (by kernel_rfl)))) rfl (by first | omega | (simp only [List.length_append,List.length_cons,List.length_nil]; omega)) (hK _ _ hJ rfl vsm))
    ·
     exact oz rfl (fun _ hK=>wp_fda (v:=.pointer (some ⟨bk1,2,none⟩)) 45 (.tmp 1) 2 rfl (zet ((hev 1 (by decide)).trans rfl)) (fun _=>by kernel_rfl) (hK _ _ hJ rfl vsm))
    ·
     exact oz rfl (fun _ hK=>wp_load 43 (.tmp 27) rfl bk1 2 2 #[p.v,s.v,.bool c.b,.slice c.a c.n c.c] #[.bool c.b,.slice c.a c.n c.c] 45 (hJ.get 0 (f:=Cf bk1 #[p.v,s.v,.bool c.b,.slice c.a c.n c.c] 45) rfl).1 (zj (hin 6 27 rfl) (show uu 6=.pointer (some ⟨bk1,2,none⟩) from (hd 6 (by kernel_rfl)))) ag43 sz43 (zzF (by kernel_rfl)) (by kernel_rfl) (hK _ _ hJ rfl vsm))
    ·
     refine oz rfl (fun _ hK=>zcz (.func 22) #[.tmp 28] #[43] 22 #[] #[c.v] _ rfl rfl (map1 (zj (hin 7 28 rfl) (show uu 7=c.v from (hd 7 (by kernel_rfl))))) rfl (fun _ _=>rfl) ((zStrr (hJ.get 1 (f:=c.ir) rfl) ez_c bC (by omega)).mono (fun _ _ h=>ptxt_dec h)) ?_)
     rintro zz ww2 ⟨rfl,hB⟩
     exact ⟨_,rfl,hK _ _ (hJ.later hB) rfl (vlat hB)⟩
    ·
     exact oz rfl (fun _ hK=>wp_sadd (.tmp 26) (.tmp 29) 9 9 rfl rfl (zj (hin 5 26 rfl) (show uu 5=.string ⟨(((whL n (fun _=>n) P++txL n q)++([59]:List UInt8))).toArray⟩ from (hd 5 (by kernel_rfl)))) (zj (hin 8 29 rfl) (show uu 8=.string ⟨(decT C).toArray⟩ from (hd 8 (by kernel_rfl)))) (by first | omega | (simp only [List.length_append,List.length_cons,List.length_nil]; omega)) (hK _ _ hJ rfl vsm))
   clear hZ10
   intro uu W3 hZ11 hd
   have e_0:uu 0=.string ⟨(whL n (fun _=>n) P).toArray⟩:=hd 0 (by decide)
   have e_1:uu 1=.pointer (some ⟨bk1,1,none⟩):=hd 1 (by decide)
   have e_2:uu 2=s.v:=hd 2 (by decide)
   have e_3:uu 3=.string ⟨(txL n q).toArray⟩:=hd 3 (by decide)
   have e_4:uu 4=.string ⟨((whL n (fun _=>n) P++txL n q)).toArray⟩:=hd 4 (by decide)
   have e_5:uu 5=.string ⟨(((whL n (fun _=>n) P++txL n q)++([59]:List UInt8))).toArray⟩:=hd 5 (by decide)
   have e_6:uu 6=.pointer (some ⟨bk1,2,none⟩):=hd 6 (by decide)
   have e_7:uu 7=c.v:=hd 7 (by decide)
   have e_8:uu 8=.string ⟨(decT C).toArray⟩:=hd 8 (by decide)
   have e_9:uu 9=.string ⟨((((whL n (fun _=>n) P++txL n q)++([59]:List UInt8))++decT C)).toArray⟩:=hd 9 (by decide)
   clear hd
   simp only [layS,Act.put,zzC,zzD,zzE,Nat.zero_add,Nat.reduceAdd,List.drop_succ_cons,List.drop_zero,List.drop_nil,e_0,e_1,e_2,e_3,e_4,e_5,e_6,e_7,e_8,e_9]
   clear e_0 e_1 e_2 e_3 e_4 e_5 e_6 e_7 e_8 e_9
   go_wp2
   go_ret
   exact ⟨rfl,hZ11.below⟩
theorem dt_1 (f:Nat→Nat→Int):M.dt 1 f=f 0 0:=by
 simp [M.dt,M.sm,M.sg]
abbrev eP:Nat→Nat→Int:=m2 (l2 2 1) (l2 1 3)
abbrev eq_:Nat→Int:=l2 1 2
def l1 (a:Int) (i:Nat):Int:=if i=0 then a else 0
theorem u_txt (z:Int) (l:List UInt8) (h:Txt z l):decT z=l:=(decT_eq h).symm
theorem e_val:decT (Vq 2 eP eq_ 4 (xl 2 (l2 1 1)))=[53]:=by
 rw [show Vq 2 eP eq_ 4 (xl 2 (l2 1 1))=5 by decide]; exact u_txt _ _ txt_5
theorem e_slope (x:Nat→Int):txL 2 (fun i=>M.mulv 2 eP (xl 0 x) i - eq_ i)=[45,49,32,45,50,32]:=by
 have hx:∀ i,xl 0 x i=0:=fun i=>by unfold xl; rw [if_neg (Nat.not_lt_zero i)]
 have hm:∀ i,M.mulv 2 eP (xl 0 x) i=0:=fun i=>by unfold M.mulv; exact M.sm_zero fun j _=>by rw [hx,Int.mul_zero]
 simp only [txL,hm]
 rw [show (0:Int) - eq_ 0=-1 by decide,show (0:Int) - eq_ 1=-2 by decide,u_txt (-1) [45,49] ⟨by decide +kernel,by decide +kernel⟩,u_txt (-2) [45,50] ⟨by decide +kernel,by decide +kernel⟩]
 rfl
theorem e_c0:crx 2 eP eq_ 0=1:=by unfold crx; rw [M.dt_two]; decide
theorem e_c1:crx 2 eP eq_ 1=3:=by unfold crx; rw [M.dt_two]; decide
theorem e_num:txL 2 (crx 2 eP eq_)=[49,32,51,32]:=by
 simp only [txL]
 rw [e_c0,e_c1,u_txt 1 [49] ⟨by decide +kernel,by decide +kernel⟩,u_txt 3 [51] ⟨by decide +kernel,by decide +kernel⟩]
 rfl
theorem e_den:decT (M.dt 2 eP)=[53]:=a_txt
theorem e_top:decT (topq 2 eP eq_ 4)=[49,51]:=by
 have:topq 2 eP eq_ 4=13:=by
  unfold topq
  rw [a_det]
  simp only [M.sm]
  rw [e_c0,e_c1]
  decide
 rw [this]; exact u_txt _ _ ⟨by decide +kernel,by decide +kernel⟩
theorem e_with:whU 1 eP (wq 1 1 eP eq_ (xl 1 (l1 1))) (wc 1 1 eP eq_ 4 (xl 1 (l1 1)))=[50,32,59,48,32,59,51]:=by
 unfold whU
 simp only [whL,txL]
 rw [show eP 0 0=2 by decide,show wq 1 1 eP eq_ (xl 1 (l1 1)) 0=0 by decide,show wc 1 1 eP eq_ 4 (xl 1 (l1 1))=3 by decide,u_txt 2 [50] ⟨by decide +kernel,by decide +kernel⟩,u_txt 0 [48] ⟨by decide +kernel,by decide +kernel⟩,u_txt 3 [51] ⟨by decide +kernel,by decide +kernel⟩]
 rfl
theorem e_cr (b:Nat→Int):crx 1 eP b 0=b 0:=by unfold crx; rw [dt_1]; rfl
theorem e_scale:decT (M.dt 1 eP)=[50]:=by
 rw [dt_1,show eP 0 0=2 by decide]; exact u_txt _ _ ⟨by decide +kernel,by decide +kernel⟩
theorem e_wo:whU 1 (lp 1 eP) (lq 1 eP eq_) (lc 1 eP eq_ 4)=[53,32,59,51,32,59,55]:=by
 have h1:lp 1 eP 0 0=5:=by
  unfold lp; rw [dt_1]; simp only [M.sm]; rw [e_cr]; decide
 have h2:lq 1 eP eq_ 0=3:=by
  unfold lq; rw [dt_1]; simp only [M.sm]; rw [e_cr]; decide
 have h3:lc 1 eP eq_ 4=7:=by
  unfold lc; rw [dt_1]; simp only [M.sm]; rw [e_cr]; decide
 unfold whU
 simp only [whL,txL]
 rw [h1,h2,h3,u_txt 5 [53] txt_5,u_txt 3 [51] ⟨by decide +kernel,by decide +kernel⟩,u_txt 7 [55] ⟨by decide +kernel,by decide +kernel⟩]
 rfl
theorem e_def1:Sym 1 eP∧∀ i,i < 1→0 < M.dt (i+1) eP:=by
 refine ⟨fun i j hi hj=>?_,fun i hi=>?_⟩
 ·
  obtain rfl:i=0:=by omega
  obtain rfl:j=0:=by omega
  rfl
 ·
  obtain rfl:i=0:=by omega
  rw [dt_1]; decide
theorem e_nosym:¬ Sym 2 (m2 (l2 1 2) (l2 3 1)):=fun h=>absurd (h 0 1 (by omega) (by omega)) (by decide)
section
variable {P:Program} {Q:Exit→Act→World→Prop} {a:Act} {w W:World} {X0 X:Nat→Prop} {o:Oper} {l:BX} {fs:List Fa} {next:Act→World→Prop}
/-- A list of one int64 is built. -/
theorem wp_bi1 {t e:TypeId} {by_:Nat} {z:Value} (hI:EInf P t e 1 z by_) (x:Operand) {v:Int} (ho:o.op=.buildSlice t 1 #[(0,x)]) (hx:a.eval x=.int .i64 v) (h:Zs w W X0 X l fs) (K:∀ (s:Sl) (W':World),Zs w W' X0 X l (Li 1 (l1 v) s :: fs)→next (a.put o.dst s.v) W'):o.wp P a W next Q:=by
 refine wp_bsv hI x (.int .i64 v) ho hx rfl h fun s W' hz=>?_
 refine K s W' ((hz.more (Li.stb _ _ _) ?_).only _ (by
  intro g hg
  rcases List.mem_cons.1 hg with rfl | hg
  ·
   exact List.mem_cons_self ..
  ·
   exact List.mem_cons_of_mem _ (List.mem_cons_of_mem _ hg)))
 have hv:=hz.get 0 (f:=Vs 1 (fun _=>.int .i64 v) s) rfl
 refine ⟨hv.n,hv.sq.congr fun i cs hi hc=>?_⟩
 have hc':cs=[.int .i64 v]:=hc
 have:=hv.n
 obtain rfl:i=0:=by omega
 exact hc'
end
theorem li_nil (x:Nat→Int) (X:Nat→Prop) (W:World):Li 0 x slz X W:=⟨rfl,Nat.le_refl _,Nat.zero_le _,fun _=>⟨rfl,rfl⟩,nofun,nofun⟩
theorem eP_in (i j:Nat):-9223372036854775808≤eP i j∧eP i j≤9223372036854775807:=m2_in (by decide) (by decide) (by decide) (by decide) i j
theorem eq_in (i:Nat):-9223372036854775808≤eq_ i∧eq_ i≤9223372036854775807:=l2_in (by decide) (by decide) i
theorem eP_sz (i j:Nat):Sz 2 (eP i j):=sz_int (eP_in i j).1 (eP_in i j).2
theorem eq_sz (i:Nat):Sz 2 (eq_ i):=sz_int (eq_in i).1 (eq_in i).2
theorem l1_in {k:Nat} (i:Nat) (_:i < k):-9223372036854775808≤l1 1 i∧l1 1 i≤9223372036854775807:=by unfold l1; split <;> omega
theorem e_4:Sz 2 4:=sz_int (by decide) (by decide)
theorem e_slope_sz (x:Nat→Int) (i:Nat) (_:i < 2):Sz 9 (M.mulv 2 eP (xl 0 x) i - eq_ i):=Sz.minus (e:=8) ((sm_sz (fun (t:Nat) _=>Sz.mul (eP_sz i t) (xl_in (x:=x) (fun i hi=>absurd hi (Nat.not_lt_zero i)) t))).mono (by omega)) ((eq_sz i).mono (by omega))
theorem e_top_sz:Sz 60 (topq 2 eP eq_ 4):=(lc_sz (k:=2) (fun i j _ _=>eP_sz i j) (fun i _=>eq_sz i) e_4).mono (by unfold lpb; decide)
theorem e_wq_sz (i:Nat) (hi:i < 1):Sz 2 (wq 1 1 eP eq_ (xl 1 (l1 1)) i):=by
 obtain rfl:i=0:=by omega
 exact sz_int (by decide) (by decide)
theorem e_wc_sz:Sz 2 (wc 1 1 eP eq_ 4 (xl 1 (l1 1))):=sz_int (by decide) (by decide)
theorem e_lp_sz (i j:Nat) (hi:i < 1) (hj:j < 1):Sz 30 (lp 1 eP i j):=(lp_sz (k:=1) (r:=1) (n:=2) (by omega) (fun i j _ _=>eP_sz i j) hi hj).mono (by unfold lpb; decide)
theorem e_lq_sz (i:Nat) (hi:i < 1):Sz 30 (lq 1 eP eq_ i):=(lq_sz (k:=1) (r:=1) (fun i j _ _=>eP_sz i j) (fun i _=>eq_sz i) hi).mono (by unfold lpb; decide)
theorem e_lc_sz:Sz 30 (lc 1 eP eq_ 4):=(lc_sz (k:=1) (fun i j _ _=>eP_sz i j) (fun i _=>eq_sz i) e_4).mono (by unfold lpb; decide)
theorem e_sym:Sym 2 eP:=a_def.1
theorem fl_filled {k n:Nat} {x:Nat→Int} {C C':Array Value} {X X':Nat→Prop} {W W':World} (h0:Fl 1 (EI (fun _=>0)) n C X W) (hin:∀ i,i < Nat.min k n→∃ cs:List Value,cs.length=1∧(∀ j,j < 1→C'[(0+i)*1+j]?=cs[j]?)∧EI x X' W' i cs) (hout:∀ j,(j < 0*1∨(0+Nat.min k n)*1≤j)→C'[j]?=C[j]?):Fl 1 (EI (xl k x)) n C' X W:=fun i hi=>by
 by_cases e:i < k
 ·
  have hm:i < Nat.min k n:=Nat.lt_min.2 ⟨e,hi⟩
  obtain ⟨cs,h1,h2,h3⟩:=hin i hm
  have h3':cs=[.int .i64 (x i)]:=h3
  refine ⟨cs,h1,fun j hj=>by have:=h2 j hj; rwa [Nat.zero_add] at this,?_⟩
  show cs=[.int .i64 (xl k x i)]
  rw [h3']; unfold xl; rw [if_pos e]
 ·
  obtain ⟨cs,h1,h2,h3⟩:=h0 i hi
  have h3':cs=[.int .i64 0]:=h3
  refine ⟨cs,h1,fun j hj=>?_,?_⟩
  ·
   rw [hout (i*1+j) (.inr (by have:Nat.min k n≤k:=Nat.min_le_left k n; omega))]
   exact h2 j hj
  ·
   show cs=[.int .i64 (xl k x i)]
   rw [h3']; unfold xl; rw [if_neg e]
/-- A list of int64 is handed back. -/
def PLI (X:Nat→Prop) (n:Nat) (x:Nat→Int) (w:World) (e:Ending) (w':World):Prop:=∃ s:Sl,e=.returned s.v∧Li n x s X w'∧Below w.heap.size w w'
set_option maxRecDepth 100000 in
set_option maxHeartbeats 12800000 in
theorem uFilled {X0:Nat→Prop} {w:World} (hX:NX X0 w) (l:Sl) (n:Nat) {k:Nat} {x:Nat→Int} (hl:Li k x l X0 w) (hn:n≤100):Calls Tryz.prog 47 #[l.v,.int .i64 ((n:Nat):Int)] w (PLI X0 n (xl k x) w):=by
 have hZ0:=zs_start hX
 have hZ1:=hZ0.more (f:=Li k x l) (Li.stb _ _ _) hl
 clear hZ0
 go_enter Tryz.func47,Tryz.ntmps47
 go_wp2_with (refine stopz_makez ei23 (.tmp 6) (.tmp 6) n rfl rfl rfl rfl (by omega) hZ1 (fun o1 C1 X2 W1 hn_o1 hw_o1 hc_o1 hZ2x=>?_))
 simp only [Stop,Act.put,zzC,zzD,zzE]
 clear hZ1
 have hZ3:Zs w W1 X0 X2 ([]++owl o1 C1 2) [Li k x l]:=hZ2x.perm List.perm_append_comm
 clear hZ2x
 have hZ4:=hZ3.more (f:=Fl 1 (EI (fun _=>0)) n C1) (Fl.stb (EI.stb _) _ _) (fl_zeros hc_o1)
 clear hZ3
 have hZ5f:=(hZ4.get 0 (f:=Fl 1 (EI (fun _=>0)) n C1) rfl)
 go_wp2_with (refine zso rfl (fun K hK=>wp_copy ei23 (.tmp 8) (.tmp 9) rfl (EI.stb x) (EI.one x) (s1:=o1) (s2:=l) 0 (Nat.min k n) (by rw [cut_none o1 1 hw_o1]; rfl) rfl hw_o1 (hZ4.perm List.perm_append_comm) (hZ4.get 1 (f:=Li k x l) rfl).sq (by rw [hn_o1]; omega) (by rw [(hZ4.get 1 (f:=Li k x l) rfl).n,hn_o1,Nat.sub_zero]) (fun C2 W2 hw_o1n hZ6 hin_C2 hout_C2=>hK _ _ ?_)))
 simp only [Stop,Act.put,zzC,zzD,zzE]
 clear hw_o1
 have hw_o1:=hw_o1n
 clear hw_o1n hZ4
 have hZ7:Zs w W2 X0 X2 ([]++owl o1 C2 2) [Fl 1 (EI (fun _=>0)) n C1,Li k x l]:=hZ6.perm List.perm_append_comm
 clear hZ6
 go_wp2
 go_ret
 have hZ8r:Fl 1 (EI (xl k x)) n C2 X2 W2:=fl_filled (hZ7.get 0 (f:=Fl 1 (EI (fun _=>0)) n C1) rfl) hin_C2 hout_C2
 exact ⟨o1,rfl,⟨hn_o1,hZ7.sq hX (EI.stb _) hw_o1 (T:=2) (fun p hp=>List.mem_append_right _ hp) (hn_o1 ▸ hZ8r)⟩,hZ7.below⟩
theorem xl_rng {k:Nat} {x:Nat→Int} (h:∀ i,i < k→-9223372036854775808≤x i∧x i≤9223372036854775807) (i:Nat):-9223372036854775808≤xl k x i∧xl k x i≤9223372036854775807:=by
 unfold xl
 split
 ·
  exact h i (by assumption)
 ·
  omega
/-- A list of numbers, and the same of the document's: of layer 8. -/
def PLj (X:Nat→Prop) (n:Nat) (x:Nat→Int) (w:World) (e:Ending) (w':World):Prop:=∃ a b:Sl,e=.returned (.tuple #[a.v,b.v])∧Ls n x a X w'∧Lr n x b X w'∧Below w.heap.size w w'
set_option maxRecDepth 100000 in
set_option maxHeartbeats 12800000 in
theorem uList {X0:Nat→Prop} {w:World} (hX:NX X0 w) (l:Sl) (n:Nat) {k:Nat} {x:Nat→Int} (hl:Li k x l X0 w) (hn:n≤100) (hb:∀ i,i < k→-9223372036854775808≤x i∧x i≤9223372036854775807):Calls Tryz.prog 15 #[l.v,.int .i64 ((n:Nat):Int)] w (PLj X0 n (xl k x) w):=by
 have HB:=Lib.hid hb
 clear hb
 have hZ0:=zs_start hX
 have hZ1:=hZ0.more (f:=Li k x l) (Li.stb _ _ _) hl
 clear hZ0
 go_enter Tryz.func15,Tryz.ntmps15
 go_wp2_with fail
 refine (uFilled hZ1.nx l n (hZ1.get 0 (f:=Li k x l) rfl) (by omega)).mono ?_
 rintro zz W1 ⟨sf,rfl,hi_sf,hB⟩
 have hZ2:=hZ1.later hB
 clear hB hZ1
 have hZ3:=hZ2.more (f:=Li n (xl k x) sf) (Li.stb _ _ _) hi_sf
 clear hZ2 hi_sf
 have hZ4:=hZ3.only [Li n (xl k x) sf] (by simp)
 clear hZ3
 go_wp2
 go_loopw [6,7,9] (fun av bv iv wr=>∃ (i:Nat) (sa sb:Sl) (Ca Cb:Array Value) (X:Nat→Prop),i≤n∧iv=.int .i64 ((i:Nat):Int)∧av=sa.v∧bv=sb.v∧sa.n=i∧Wr 2 sa Ca∧sb.n=i∧Wr 2 sb Cb∧Zs w wr X0 X ([]++(owl sa Ca 30++owl sb Cb 43)) [Fl 2 (EN (xl k x)) i Ca,Fl 2 (ENr (xl k x)) i Cb,Li n (xl k x) sf]) (fun _ _ iv _=>n - (intOf iv).toNat)
 case atStart=>exact ⟨0,slz,slz,#[],#[],_,by omega,rfl,rfl,rfl,rfl,wr_slz 2,rfl,wr_slz 2,((hZ4.more (f:=Fl 2 (ENr (xl k x)) 0 #[]) (Fl.stb (ENr.stb _) _ _) (fl_zero 2 (ENr (xl k x)) #[] _ _)).more (f:=Fl 2 (EN (xl k x)) 0 #[]) (Fl.stb (EN.stb _) _ _) (fl_zero 2 (EN (xl k x)) #[] _ _))⟩
 case round =>
  clear hZ4
  obtain ⟨i,sa,sb,Ca,Cb,X,hi,rfl,rfl,rfl,hn_sa,hw_sa,hn_sb,hw_sb,hZ⟩:=hrel
  by_cases hlt:i < n
  ·
   go_wp2_with (refine zso rfl (fun K hK=>wp_lssi (.tmp 13) (.tmp 14) rfl rfl rfl (r:=true) (decide_eq_true (by omega)) (hK _ _ ?_)))
   simp only [Stop,Act.put,zzC,zzD,zzE]
   go_wp2_with (refine zso rfl (fun K hK=>wp_ixs 23 (.tmp 19) (.tmp 20) sf i 1 2 rfl rfl rfl (by kernel_rfl) sz2 (fun h=>((hZ.get 2 (f:=Li n (xl k x) sf) rfl).sq.nil h).1) ((hZ.get 2 (f:=Li n (xl k x) sf) rfl).n ▸ (by omega)) (hK _ _ ?_)))
   simp only [Stop,Act.put,zzC,zzD,zzE]
   go_wp2_with (refine zso rfl (fun K hK=>wp_ldi 2 (.tmp 21) sf i n (xl k x) rfl rfl (hZ.get 2 (f:=Li n (xl k x) sf) rfl) (by omega) ag2 (hK _ _ ?_)))
   simp only [Stop,Act.put,zzC,zzD,zzE]
   go_wp2_with fail
   refine (zOf hZ.nx (xl_rng HB.out i).1 (xl_rng HB.out i).2).mono ?_
   rintro zz W2 ⟨q1,rfl,ez_q1,hi_q1,hB⟩
   have hZ5:=hZ.later hB
   clear hB hZ
   have hZ6:=hZ5.more (f:=q1.is) q1.stb hi_q1
   clear hZ5 hi_q1
   go_wp2_with (refine zso rfl (fun K hK=>wp_bs2 ei27 (.tmp 23) rfl rfl (hK _ _ ?_)))
   simp only [Stop,Act.put,zzC,zzD,zzE]
   have hZ7:=hZ6.later (below_new _ (.cells #[.bool q1.b,.slice q1.a q1.n q1.c] 30))
   clear hZ6
   have hZ8y:=hZ7.perm (perm_mid _ _ _)
   go_wp2_with (refine zso rfl (fun K hK=>wp_app ei27 (.tmp 18) (.tmp 24) rfl (s:=sa) rfl ⟨W2.heap.size,0,none⟩ 1 rfl hw_sa (by rw [hn_sa]; omega) hZ8y [.bool q1.b,.slice q1.a q1.n q1.c] rfl (cell_two _ (.bool q1.b) (.slice q1.a q1.n q1.c) _) (fun u hu=>by simp only [List.mem_cons,List.not_mem_nil,or_false] at hu; rcases hu with rfl | rfl <;> rfl) (fun o2 C2 X8 W3 hn_o2 hw_o2 ho_C2 hg_C2 hZ8x=>hK _ _ ?_)))
   simp only [Stop,Act.put,zzC,zzD,zzE]
   clear hZ8y
   rw [hn_sa] at hn_o2 ho_C2 hg_C2
   have hZ8:=hZ8x.perm (List.Perm.symm (perm_mid _ _ _))
   clear hZ8x hZ7
   have hZ9s:Fl 2 (EN (xl k x)) (i+1) C2 X8 W3:=Fl.snoc (C:=Ca) (hZ8.get 1 (f:=Fl 2 (EN (xl k x)) i Ca) rfl) (cs:=[.bool q1.b,.slice q1.a q1.n q1.c]) rfl ho_C2 hg_C2 ⟨q1,ez_q1,(hZ8.get 0 (f:=q1.is) rfl),rfl⟩
   have hZ9:=(hZ8.more (Fl.stb (EN.stb _) _ _) hZ9s).only [Fl 2 (EN (xl k x)) (i+1) C2,Fl 2 (ENr (xl k x)) i Cb,Li n (xl k x) sf] (by simp)
   clear hZ8 hZ9s
   go_wp2_with (refine zso rfl (fun K hK=>wp_ixs 23 (.tmp 27) (.tmp 28) sf i 1 2 rfl rfl rfl (by kernel_rfl) sz2 (fun h=>((hZ9.get 2 (f:=Li n (xl k x) sf) rfl).sq.nil h).1) ((hZ9.get 2 (f:=Li n (xl k x) sf) rfl).n ▸ (by omega)) (hK _ _ ?_)))
   simp only [Stop,Act.put,zzC,zzD,zzE]
   go_wp2_with (refine zso rfl (fun K hK=>wp_ldi 2 (.tmp 29) sf i n (xl k x) rfl rfl (hZ9.get 2 (f:=Li n (xl k x) sf) rfl) (by omega) ag2 (hK _ _ ?_)))
   simp only [Stop,Act.put,zzC,zzD,zzE]
   go_wp2_with fail
   refine (zOfr hZ9.nx (xl_rng HB.out i).1 (xl_rng HB.out i).2).mono ?_
   rintro zz W4 ⟨d4,rfl,ez_d4,hi_d4,hB⟩
   have hZ10:=hZ9.later hB
   clear hB hZ9
   have hZ11:=hZ10.more (f:=d4.ir) d4.stbr hi_d4
   clear hZ10 hi_d4
   go_wp2_with (refine zso rfl (fun K hK=>wp_bs2 ei40 (.tmp 31) rfl rfl (hK _ _ ?_)))
   simp only [Stop,Act.put,zzC,zzD,zzE]
   have hZ12:=hZ11.later (below_new _ (.cells #[.bool d4.b,.slice d4.a d4.n d4.c] 43))
   clear hZ11
   have hZ13y:=hZ12.perm ((List.Perm.append_left _ List.perm_append_comm).trans (perm_mid _ _ _))
   go_wp2_with (refine zso rfl (fun K hK=>wp_app ei40 (.tmp 26) (.tmp 32) rfl (s:=sb) rfl ⟨W4.heap.size,0,none⟩ 1 rfl hw_sb (by rw [hn_sb]; omega) hZ13y [.bool d4.b,.slice d4.a d4.n d4.c] rfl (cell_two _ (.bool d4.b) (.slice d4.a d4.n d4.c) _) (fun u hu=>by simp only [List.mem_cons,List.not_mem_nil,or_false] at hu; rcases hu with rfl | rfl <;> rfl) (fun o5 C5 X13 W5 hn_o5 hw_o5 ho_C5 hg_C5 hZ13x=>hK _ _ ?_)))
   simp only [Stop,Act.put,zzC,zzD,zzE]
   clear hZ13y
   rw [hn_sb] at hn_o5 ho_C5 hg_C5
   have hZ13:=hZ13x.perm (List.Perm.symm ((List.Perm.append_left _ List.perm_append_comm).trans (perm_mid _ _ _)))
   clear hZ13x hZ12
   have hZ14s:Fl 2 (ENr (xl k x)) (i+1) C5 X13 W5:=Fl.snoc (C:=Cb) (hZ13.get 2 (f:=Fl 2 (ENr (xl k x)) i Cb) rfl) (cs:=[.bool d4.b,.slice d4.a d4.n d4.c]) rfl ho_C5 hg_C5 ⟨d4,ez_d4,(hZ13.get 0 (f:=d4.ir) rfl),rfl⟩
   have hZ14:=(hZ13.more (Fl.stb (ENr.stb _) _ _) hZ14s).only [Fl 2 (ENr (xl k x)) (i+1) C5,Fl 2 (EN (xl k x)) (i+1) C2,Li n (xl k x) sf] (by simp)
   clear hZ13 hZ14s
   have hZ15:=hZ14.only [Fl 2 (EN (xl k x)) (i+1) C2,Fl 2 (ENr (xl k x)) (i+1) C5,Li n (xl k x) sf] (by simp)
   clear hZ14
   go_wp2_with (refine zso rfl (fun K hK=>wp_addi (.tmp 16) (.const (.int .i64 1)) rfl rfl rfl (C:=((i+1:Nat):Int)) (by omega) (by omega) (by omega) (hK _ _ ?_)))
   simp only [Stop,Act.put,zzC,zzD,zzE]
   go_wp2
   go_roundw
   case rel=>exact ⟨i+1,o2,o5,C2,C5,_,by omega,by go_num,rfl,rfl,hn_o2,hw_o2,hn_o5,hw_o5,hZ15⟩
   case measure=>simp [intOf]; omega
  ·
   obtain rfl:n=i:=by omega
   go_wp2_with (refine zso rfl (fun K hK=>wp_lssi (.tmp 13) (.tmp 14) rfl rfl rfl (r:=false) (decide_eq_false (Int.lt_irrefl _)) (hK _ _ ?_)))
   simp only [Stop,Act.put,zzC,zzD,zzE]
   go_wp2
   go_ret2
   exact ⟨sa,sb,rfl,⟨hn_sa,hZ.sq hX (EN.stb _) hw_sa (T:=30) (fun p hp=>List.mem_append_right _ (List.mem_append_left _ hp)) (hn_sa ▸ hZ.get 0 (f:=Fl 2 (EN (xl k x)) n Ca) rfl)⟩,⟨hn_sb,hZ.sq hX (ENr.stb _) hw_sb (T:=43) (fun p hp=>List.mem_append_right _ (List.mem_append_right _ hp)) (hn_sb ▸ hZ.get 1 (f:=Fl 2 (ENr (xl k x)) n Cb) rfl)⟩,hZ.below⟩
end Go.Proofs.YtjclllindbfmhaaGreatDoor
