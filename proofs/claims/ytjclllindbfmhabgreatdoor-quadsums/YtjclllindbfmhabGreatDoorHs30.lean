/- Parts of the proof. -/
import Derived.Test.YtjclllindbfmhabGreatDoorHs0
import Derived.Test.YtjclllindbfmhabGreatDoorHs29
import Derived.Test.YtjclllindbfmhabGreatDoorHs25
import Derived.Test.YtjclllindbfmhabGreatDoorHs24
set_option linter.unusedSimpArgs false
set_option linter.unusedVariables false
namespace Go.Proofs.YtjclllindbfmhabGreatDoor
/- Package quad: the walks of ofTable, leading, isOwnTurned. No statement of the seat is proved here. -/
open Go Go.RowKit
set_option maxRecDepth 100000 in
set_option maxHeartbeats 12800000 in
theorem uOfT1 {X0:Nat→Prop} {w:World} (hX:NX X0 w) {n:Nat} {a:Sl} {B:Nat→Nat→Int} (bR bN i:Nat) (hi:i < n+1) (cR:Cf bR #[a.v] 25 X0 w) (cN:Cf bN #[.int .i64 ((n:Nat):Int)] 3 X0 w) (ha:Mt (n+1) (fun _=>n+1) B a X0 w):Calls Tryz.prog 61 #[.int .i64 ((i:Nat):Int),.pointer (some ⟨bR,0,none⟩),.pointer (some ⟨bN,0,none⟩)] w (PLX X0 n (B i) w):=by
 have hZ0:=zs_start hX
 have hZ1:=hZ0.more (f:=Cf bR #[a.v] 25) (Cf.stb _ _ _) cR
 clear hZ0
 have hZ2:=hZ1.more (f:=Cf bN #[.int .i64 (((n:Nat):Int))] 3) (Cf.stb _ _ _) cN
 clear hZ1
 have hZ3:=hZ2.more (f:=Mt (n+1) (fun _=>n+1) B a) (Mt.stb _ _ _ _) ha
 clear hZ2
 go_enter Tryz.func61,Tryz.ntmps61
 go_wp2
 obtain ⟨XR1,hZ4⟩:∃ Xr,Zs w w X0 Xr [] [Mt (n+1) (fun _=>n+1) B a,Cf bN #[.int .i64 (((n:Nat):Int))] 3,Cf bR #[a.v] 25]:=⟨_,hZ3⟩
 clear hZ3
 refine zrp 7 [some 5,some 6,some 7,some 8,some 9,some 10,some 11] [veq (a.v),veq (.int .i64 (((i:Nat):Int))),veq ((a.at 1 i)),vls (n+1) (B i),veq (.int .i64 (((n:Nat):Int))),veq (.int .i64 (((n:Nat):Int))),vls n (B i)] (by kernel_rfl) (by kernel_rfl) (by rfl) (by decide) (by rfl) hZ4 ?_ ?_
 ·
  intro iq hlq hiq LL uu ww aa hLi hLc hJ hd hall hev hin hold
  clear hZ4
  obtain rfl | rfl | rfl | rfl | rfl | rfl | rfl:iq=0∨iq=1∨iq=2∨iq=3∨iq=4∨iq=5∨iq=6:=by omega
  ·
   exact oz rfl (fun _ hK=>wp_load1 (v:=a.v) 25 (.tmp 1) rfl bR 0 #[a.v] 25 (hJ.get 2 (f:=Cf bR #[a.v] 25) rfl).1 (zet ((hev 1 (by decide)).trans rfl)) ag25 (by kernel_rfl) (hK _ _ hJ rfl vsm))
  ·
   exact oz rfl (fun _ hK=>wp_move (.tmp 0) rfl (zet ((hev 0 (by decide)).trans rfl)) (hK _ _ hJ rfl vsm))
  ·
   exact oz rfl (fun _ hK=>wp_ixs 25 (.tmp 5) (.tmp 6) a i 1 27 rfl (zj (hin 0 5 rfl) (show uu 0=a.v from (hd 0 (by kernel_rfl)))) (zj (hin 1 6 rfl) (show uu 1=.int .i64 (((i:Nat):Int)) from (hd 1 (by kernel_rfl)))) (by kernel_rfl) sz27 (fun h=>((hJ.get 0 (f:=Mt (n+1) (fun _=>n+1) B a) rfl).sq.nil h).1) ((hJ.get 0 (f:=Mt (n+1) (fun _=>n+1) B a) rfl).n ▸ (by omega)) (hK _ _ hJ rfl vsm))
  ·
   exact oz rfl (fun _ hK=>wp_ldm 27 (.tmp 7) a i (n+1) (fun _=>n+1) B rfl (zj (hin 2 7 rfl) (show uu 2=(a.at 1 i) from (hd 2 (by kernel_rfl)))) (hJ.get 0 (f:=Mt (n+1) (fun _=>n+1) B a) rfl) (by omega) ag27 (fun s1 hi_s1=>hK _ _ hJ ⟨s1,rfl,hi_s1⟩ vsm))
  ·
   exact oz rfl (fun _ hK=>wp_load1 (v:=.int .i64 (((n:Nat):Int))) 3 (.tmp 2) rfl bN 0 #[.int .i64 (((n:Nat):Int))] 3 (hJ.get 1 (f:=Cf bN #[.int .i64 (((n:Nat):Int))] 3) rfl).1 (zet ((hev 2 (by decide)).trans rfl)) ag3 (by kernel_rfl) (hK _ _ hJ rfl vsm))
  ·
   exact oz rfl (fun _ hK=>wp_load1 (v:=.int .i64 (((n:Nat):Int))) 3 (.tmp 2) rfl bN 0 #[.int .i64 (((n:Nat):Int))] 3 (hJ.get 1 (f:=Cf bN #[.int .i64 (((n:Nat):Int))] 3) rfl).1 (zet ((hev 2 (by decide)).trans rfl)) ag3 (by kernel_rfl) (hK _ _ hJ rfl vsm))
  ·
   obtain ⟨s1,e3,hi_s1⟩:=(show (vls (n+1) (B i)) (uu 3) XR1 ww from (hd 3 (by kernel_rfl)))
   replace hJ:=hJ.more (f:=Ls (n+1) (B i) s1) (Ls.stb _ _ _) hi_s1
   exact oz rfl (fun _ hK=>wp_sl3n 27 30 (.tmp 8) (.tmp 9) (.tmp 10) s1 n rfl (zj (hin 3 8 rfl) e3) (zj (hin 4 9 rfl) (show uu 4=.int .i64 (((n:Nat):Int)) from (hd 4 (by kernel_rfl)))) (zj (hin 5 10 rfl) (show uu 5=.int .i64 (((n:Nat):Int)) from (hd 5 (by kernel_rfl)))) (by kernel_rfl) sz30 (hJ.get 0 (f:=Ls (n+1) (B i) s1) rfl) (by omega) (fun s2 hc_s2 hi_s2=>hK _ _ (hJ.only [Mt (n+1) (fun _=>n+1) B a,Cf bN #[.int .i64 (((n:Nat):Int))] 3,Cf bR #[a.v] 25] (by simp)) ⟨s2,rfl,hi_s2⟩ vsm))
 clear hZ4
 intro uu W1 hZ5 hd
 have e_0:uu 0=a.v:=hd 0 (by decide)
 have e_1:uu 1=.int .i64 (((i:Nat):Int)):=hd 1 (by decide)
 have e_2:uu 2=(a.at 1 i):=hd 2 (by decide)
 obtain ⟨s1,e_3,hi_s1⟩:=(show (vls (n+1) (B i)) (uu 3) XR1 W1 from hd 3 (by decide))
 have e_4:uu 4=.int .i64 (((n:Nat):Int)):=hd 4 (by decide)
 have e_5:uu 5=.int .i64 (((n:Nat):Int)):=hd 5 (by decide)
 obtain ⟨s2,e_6,hi_s2⟩:=(show (vls n (B i)) (uu 6) XR1 W1 from hd 6 (by decide))
 clear hd
 simp only [layS,Act.put,zzC,zzD,zzE,Nat.zero_add,Nat.reduceAdd,List.drop_succ_cons,List.drop_zero,List.drop_nil,e_0,e_1,e_2,e_3,e_4,e_5,e_6]
 clear e_0 e_1 e_2 e_3 e_4 e_5 e_6
 have hZ6:=hZ5.more (f:=Ls (n+1) (B i) s1) (Ls.stb _ _ _) hi_s1
 clear hZ5 hi_s1
 have hZ7:=hZ6.more (f:=Ls n (B i) s2) (Ls.stb _ _ _) hi_s2
 clear hZ6 hi_s2
 go_wp2
 go_ret
 exact ⟨s2,rfl,hZ7.out 0 (f:=Ls n (B i) s2) rfl,hZ7.below⟩
set_option maxRecDepth 100000 in
set_option maxHeartbeats 12800000 in
theorem uOfT {X0:Nat→Prop} {w:World} (hX:NX X0 w) (a:Sl) {n:Nat} {B:Nat→Nat→Int} (ha:Mt (n+1) (fun _=>n+1) B a X0 w) (hn:n≤100):Calls Tryz.prog 26 #[a.v] w (PUX X0 n B (B n) (B n n) w):=by
 have hZ0:=zs_start hX
 have hZ1:=hZ0.more (f:=Mt (n+1) (fun _=>n+1) B a) (Mt.stb _ _ _ _) ha
 clear hZ0
 go_enter Tryz.func26,Tryz.ntmps26
 go_wp2_with (refine zsb 25 (.tmp 0) #[a.v] rfl rfl rfl hZ1 (fun bk1 X2 W1 hZ2=>?_))
 clear hZ1
 simp only [Stop,Act.put,zzC,zzD,zzE]
 go_wp2_with (refine zsa 32 #[.slice none 0 0,.slice none 0 0,.bool false,.slice none 0 0] (.agg #[.slice none 0 0,.slice none 0 0,.bool false,.slice none 0 0]) rfl rfl zv32 rfl hZ2 (fun bk2 X3 W2 hZ3=>?_))
 clear hZ2
 simp only [Stop,Act.put,zzC,zzD,zzE]
 go_wp2_with (refine zso rfl (fun K hK=>wp_load1 (v:=a.v) 25 (.tmp 1) rfl bk1 0 #[a.v] 25 (hZ3.es.at' _ (zzG (i:=1) rfl)) rfl ag25 (by kernel_rfl) (hK _ _ ?_)))
 simp only [Stop,Act.put,zzC,zzD,zzE]
 go_wp2_with (refine zso rfl (fun K hK=>wp_lenq (.tmp 4) 25 27 a rfl (by kernel_rfl) rfl (hZ3.get 0 (f:=Mt (n+1) (fun _=>n+1) B a) rfl).n (hK _ _ ?_)))
 simp only [Stop,Act.put,zzC,zzD,zzE]
 go_wp2_with (refine zso rfl (fun K hK=>wp_subi (.tmp 5) (.const (.int .i64 1)) rfl rfl rfl (C:=((n:Nat):Int)) (by omega) (by omega) (by omega) (hK _ _ ?_)))
 simp only [Stop,Act.put,zzC,zzD,zzE]
 go_wp2_with (refine zsa 3 #[.int .i64 0] (.int .i64 0) rfl rfl zv3 rfl hZ3 (fun bk3 X4 W3 hZ4=>?_))
 clear hZ3
 simp only [Stop,Act.put,zzC,zzD,zzE]
 go_wp2_with (refine zss 3 (.tmp 3) (.tmp 6) 0 bk3 0 #[.int .i64 0] 3 1 [.int .i64 (((n:Nat):Int))] #[.int .i64 (((n:Nat):Int))] [(bk3,#[.int .i64 (((n:Nat):Int))],3),(bk2,#[.slice none 0 0,.slice none 0 0,.bool false,.slice none 0 0],32),(bk1,#[a.v],25)] rfl rfl rfl rfl sz3 hZ4 rfl rfl (zzF (by kernel_rfl)) (by kernel_rfl) (by kernel_rfl) (by kernel_rfl) (fun W4 hZ5=>?_))
 clear hZ4
 simp only [Stop,Act.put,zzC,zzD,zzE]
 have hZ6:=hZ5.perm ((List.Perm.cons _ (List.Perm.swap _ _ _)).trans (List.Perm.swap _ _ _))
 clear hZ5
 have hZ7:=hZ6.release hX
 clear hZ6
 have hZ8:=hZ7.release hX
 clear hZ7
 go_wp2
 obtain ⟨XR2,hZ9⟩:∃ Xr,Zs w W4 X0 Xr [(bk2,#[.slice none 0 0,.slice none 0 0,.bool false,.slice none 0 0],32)] [Cf bk3 #[.int .i64 (((n:Nat):Int))] 3,Cf bk1 #[a.v] 25,Mt (n+1) (fun _=>n+1) B a]:=⟨_,hZ8⟩
 clear hZ8
 refine zrp 18 [some 7,some 8,some 9,some 10,some 11,some 12,some 13,some 14,some 15,some 16,some 17,some 18,some 19,some 20,some 21,some 22,some 23,some 24] [veq (.int .i64 (((n:Nat):Int))),veq (.func (.func 61) #[] #[.pointer (some ⟨bk1,0,none⟩),.pointer (some ⟨bk3,0,none⟩)]),vmt n (fun _=>n) B,veq (a.v),veq (.int .i64 (((n:Nat):Int))),veq ((a.at 1 n)),vls (n+1) (B n),veq (.int .i64 (((n:Nat):Int))),veq (.int .i64 (((n:Nat):Int))),vls n (B n),veq (a.v),veq (.int .i64 (((n:Nat):Int))),veq ((a.at 1 n)),vls (n+1) (B n),veq (.int .i64 (((n:Nat):Int))),vat (n+1) (B n) n,vnum (B n n),vux n B (B n) (B n n)] (by kernel_rfl) (by kernel_rfl) (by rfl) (by decide) (by rfl) hZ9 ?_ ?_
 ·
  intro iq hlq hiq LL uu ww aa hLi hLc hJ hd hall hev hin hold
  clear hZ9
  obtain rfl | rfl | rfl | rfl | rfl | rfl | rfl | rfl | rfl | rfl | rfl | rfl | rfl | rfl | rfl | rfl | rfl | rfl:iq=0∨iq=1∨iq=2∨iq=3∨iq=4∨iq=5∨iq=6∨iq=7∨iq=8∨iq=9∨iq=10∨iq=11∨iq=12∨iq=13∨iq=14∨iq=15∨iq=16∨iq=17:=by omega
  ·
   exact oz rfl (fun _ hK=>wp_load1 (v:=.int .i64 (((n:Nat):Int))) 3 (.tmp 3) rfl bk3 0 #[.int .i64 (((n:Nat):Int))] 3 (hJ.get 0 (f:=Cf bk3 #[.int .i64 (((n:Nat):Int))] 3) rfl).1 (zet ((hev 3 (by decide)).trans rfl)) ag3 (by kernel_rfl) (hK _ _ hJ rfl vsm))
  ·
   exact oz rfl (fun _ hK=>wp_mkf 61 #[.tmp 1,.tmp 3] #[.pointer (some ⟨bk1,0,none⟩),.pointer (some ⟨bk3,0,none⟩)] rfl (map2 (zet ((hev 1 (by decide)).trans rfl)) (zet ((hev 3 (by decide)).trans rfl))) (hK _ _ hJ rfl vsm))
  ·
   refine oz rfl (fun _ hK=>zcz (.func 55) #[.tmp 7,.tmp 8] #[3,91] 55 #[] #[.int .i64 (((n:Nat):Int)),.func (.func 61) #[] #[.pointer (some ⟨bk1,0,none⟩),.pointer (some ⟨bk3,0,none⟩)]] _ rfl rfl (map2 (zj (hin 0 7 rfl) (show uu 0=.int .i64 (((n:Nat):Int)) from (hd 0 (by kernel_rfl)))) (zj (hin 1 8 rfl) (show uu 1=.func (.func 61) #[] #[.pointer (some ⟨bk1,0,none⟩),.pointer (some ⟨bk3,0,none⟩)] from (hd 1 (by kernel_rfl))))) rfl (fun _ _=>rfl) (uMadeL hJ.nx n 61 #[.pointer (some ⟨bk1,0,none⟩),.pointer (some ⟨bk3,0,none⟩)] (fun _=>n) B (by omega) ⟨fun _ _=>rfl,fun i hi X' W' hx he hb=>(show Calls _ _ #[.int .i64 ((i:Nat):Int),.pointer (some ⟨bk1,0,none⟩),.pointer (some ⟨bk3,0,none⟩)] _ _ from uOfT1 hx bk1 bk3 i (Nat.lt_succ_of_lt hi) (Cf.stb _ _ _ _ _ _ _ he (hJ.get 1 (f:=Cf bk1 #[a.v] 25) rfl)) (Cf.stb _ _ _ _ _ _ _ he (hJ.get 0 (f:=Cf bk3 #[.int .i64 (((n:Nat):Int))] 3) rfl)) (Mt.stb _ _ _ _ _ _ _ _ he (hJ.get 2 (f:=Mt (n+1) (fun _=>n+1) B a) rfl)))⟩) ?_)
   rintro zz ww2 ⟨s1,rfl,hi_s1,hB⟩
   exact ⟨_,rfl,hK _ _ (hJ.later hB) ⟨s1,rfl,hi_s1⟩ (vlat hB)⟩
  ·
   exact oz rfl (fun _ hK=>wp_load1 (v:=a.v) 25 (.tmp 1) rfl bk1 0 #[a.v] 25 (hJ.get 1 (f:=Cf bk1 #[a.v] 25) rfl).1 (zet ((hev 1 (by decide)).trans rfl)) ag25 (by kernel_rfl) (hK _ _ hJ rfl vsm))
  ·
   exact oz rfl (fun _ hK=>wp_load1 (v:=.int .i64 (((n:Nat):Int))) 3 (.tmp 3) rfl bk3 0 #[.int .i64 (((n:Nat):Int))] 3 (hJ.get 0 (f:=Cf bk3 #[.int .i64 (((n:Nat):Int))] 3) rfl).1 (zet ((hev 3 (by decide)).trans rfl)) ag3 (by kernel_rfl) (hK _ _ hJ rfl vsm))
  ·
   exact oz rfl (fun _ hK=>wp_ixs 25 (.tmp 10) (.tmp 11) a n 1 27 rfl (zj (hin 3 10 rfl) (show uu 3=a.v from (hd 3 (by kernel_rfl)))) (zj (hin 4 11 rfl) (show uu 4=.int .i64 (((n:Nat):Int)) from (hd 4 (by kernel_rfl)))) (by kernel_rfl) sz27 (fun h=>((hJ.get 2 (f:=Mt (n+1) (fun _=>n+1) B a) rfl).sq.nil h).1) ((hJ.get 2 (f:=Mt (n+1) (fun _=>n+1) B a) rfl).n ▸ (by omega)) (hK _ _ hJ rfl vsm))
  ·
   exact oz rfl (fun _ hK=>wp_ldm 27 (.tmp 12) a n (n+1) (fun _=>n+1) B rfl (zj (hin 5 12 rfl) (show uu 5=(a.at 1 n) from (hd 5 (by kernel_rfl)))) (hJ.get 2 (f:=Mt (n+1) (fun _=>n+1) B a) rfl) (by omega) ag27 (fun s2 hi_s2=>hK _ _ hJ ⟨s2,rfl,hi_s2⟩ vsm))
  ·
   exact oz rfl (fun _ hK=>wp_load1 (v:=.int .i64 (((n:Nat):Int))) 3 (.tmp 3) rfl bk3 0 #[.int .i64 (((n:Nat):Int))] 3 (hJ.get 0 (f:=Cf bk3 #[.int .i64 (((n:Nat):Int))] 3) rfl).1 (zet ((hev 3 (by decide)).trans rfl)) ag3 (by kernel_rfl) (hK _ _ hJ rfl vsm))
  ·
   exact oz rfl (fun _ hK=>wp_load1 (v:=.int .i64 (((n:Nat):Int))) 3 (.tmp 3) rfl bk3 0 #[.int .i64 (((n:Nat):Int))] 3 (hJ.get 0 (f:=Cf bk3 #[.int .i64 (((n:Nat):Int))] 3) rfl).1 (zet ((hev 3 (by decide)).trans rfl)) ag3 (by kernel_rfl) (hK _ _ hJ rfl vsm))
  ·
   obtain ⟨s2,e6,hi_s2⟩:=(show (vls (n+1) (B n)) (uu 6) XR2 ww from (hd 6 (by kernel_rfl)))
   replace hJ:=hJ.more (f:=Ls (n+1) (B n) s2) (Ls.stb _ _ _) hi_s2
   exact oz rfl (fun _ hK=>wp_sl3n 27 30 (.tmp 13) (.tmp 14) (.tmp 15) s2 n rfl (zj (hin 6 13 rfl) e6) (zj (hin 7 14 rfl) (show uu 7=.int .i64 (((n:Nat):Int)) from (hd 7 (by kernel_rfl)))) (zj (hin 8 15 rfl) (show uu 8=.int .i64 (((n:Nat):Int)) from (hd 8 (by kernel_rfl)))) (by kernel_rfl) sz30 (hJ.get 0 (f:=Ls (n+1) (B n) s2) rfl) (by omega) (fun s3 hc_s3 hi_s3=>hK _ _ (hJ.only [Cf bk3 #[.int .i64 (((n:Nat):Int))] 3,Cf bk1 #[a.v] 25,Mt (n+1) (fun _=>n+1) B a] (by simp)) ⟨s3,rfl,hi_s3⟩ vsm))
  ·
   exact oz rfl (fun _ hK=>wp_load1 (v:=a.v) 25 (.tmp 1) rfl bk1 0 #[a.v] 25 (hJ.get 1 (f:=Cf bk1 #[a.v] 25) rfl).1 (zet ((hev 1 (by decide)).trans rfl)) ag25 (by kernel_rfl) (hK _ _ hJ rfl vsm))
  ·
   exact oz rfl (fun _ hK=>wp_load1 (v:=.int .i64 (((n:Nat):Int))) 3 (.tmp 3) rfl bk3 0 #[.int .i64 (((n:Nat):Int))] 3 (hJ.get 0 (f:=Cf bk3 #[.int .i64 (((n:Nat):Int))] 3) rfl).1 (zet ((hev 3 (by decide)).trans rfl)) ag3 (by kernel_rfl) (hK _ _ hJ rfl vsm))
  ·
   exact oz rfl (fun _ hK=>wp_ixs 25 (.tmp 17) (.tmp 18) a n 1 27 rfl (zj (hin 10 17 rfl) (show uu 10=a.v from (hd 10 (by kernel_rfl)))) (zj (hin 11 18 rfl) (show uu 11=.int .i64 (((n:Nat):Int)) from (hd 11 (by kernel_rfl)))) (by kernel_rfl) sz27 (fun h=>((hJ.get 2 (f:=Mt (n+1) (fun _=>n+1) B a) rfl).sq.nil h).1) ((hJ.get 2 (f:=Mt (n+1) (fun _=>n+1) B a) rfl).n ▸ (by omega)) (hK _ _ hJ rfl vsm))
  ·
   exact oz rfl (fun _ hK=>wp_ldm 27 (.tmp 19) a n (n+1) (fun _=>n+1) B rfl (zj (hin 12 19 rfl) (show uu 12=(a.at 1 n) from (hd 12 (by kernel_rfl)))) (hJ.get 2 (f:=Mt (n+1) (fun _=>n+1) B a) rfl) (by omega) ag27 (fun s4 hi_s4=>hK _ _ hJ ⟨s4,rfl,hi_s4⟩ vsm))
  ·
   exact oz rfl (fun _ hK=>wp_load1 (v:=.int .i64 (((n:Nat):Int))) 3 (.tmp 3) rfl bk3 0 #[.int .i64 (((n:Nat):Int))] 3 (hJ.get 0 (f:=Cf bk3 #[.int .i64 (((n:Nat):Int))] 3) rfl).1 (zet ((hev 3 (by decide)).trans rfl)) ag3 (by kernel_rfl) (hK _ _ hJ rfl vsm))
  ·
   obtain ⟨s4,e13,hi_s4⟩:=(show (vls (n+1) (B n)) (uu 13) XR2 ww from (hd 13 (by kernel_rfl)))
   replace hJ:=hJ.more (f:=Ls (n+1) (B n) s4) (Ls.stb _ _ _) hi_s4
   exact oz rfl (fun _ hK=>wp_ixs 27 (.tmp 20) (.tmp 21) s4 n 2 30 rfl (zj (hin 13 20 rfl) e13) (zj (hin 14 21 rfl) (show uu 14=.int .i64 (((n:Nat):Int)) from (hd 14 (by kernel_rfl)))) (by kernel_rfl) sz30 (fun h=>((hJ.get 0 (f:=Ls (n+1) (B n) s4) rfl).sq.nil h).1) ((hJ.get 0 (f:=Ls (n+1) (B n) s4) rfl).n ▸ (by omega)) (hK _ _ (hJ.only [Cf bk3 #[.int .i64 (((n:Nat):Int))] 3,Cf bk1 #[a.v] 25,Mt (n+1) (fun _=>n+1) B a] (by simp)) ⟨s4,rfl,hi_s4⟩ vsm))
  ·
   obtain ⟨s4,e15,hi_s4⟩:=(show (vat (n+1) (B n) n) (uu 15) XR2 ww from (hd 15 (by kernel_rfl)))
   replace hJ:=hJ.more (f:=Ls (n+1) (B n) s4) (Ls.stb _ _ _) hi_s4
   exact oz rfl (fun _ hK=>wp_ldn 30 (.tmp 22) s4 n (n+1) (B n) rfl (zj (hin 15 22 rfl) e15) (hJ.get 0 (f:=Ls (n+1) (B n) s4) rfl) (by omega) ag30 sz30 (fun q5 ez_q5 hi_q5=>hK _ _ (hJ.only [Cf bk3 #[.int .i64 (((n:Nat):Int))] 3,Cf bk1 #[a.v] 25,Mt (n+1) (fun _=>n+1) B a] (by simp)) ⟨q5,rfl,ez_q5,hi_q5⟩ vsm))
  ·
   obtain ⟨s1,e2,hi_s1⟩:=(show (vmt n (fun _=>n) B) (uu 2) XR2 ww from (hd 2 (by kernel_rfl)))
   obtain ⟨s3,e9,hi_s3⟩:=(show (vls n (B n)) (uu 9) XR2 ww from (hd 9 (by kernel_rfl)))
   obtain ⟨q5,e16,ez_q5,hi_q5⟩:=(show (vnum (B n n)) (uu 16) XR2 ww from (hd 16 (by kernel_rfl)))
   replace hJ:=hJ.more (f:=Mt n (fun _=>n) B s1) (Mt.stb _ _ _ _) hi_s1
   replace hJ:=hJ.more (f:=Ls n (B n) s3) (Ls.stb _ _ _) hi_s3
   replace hJ:=hJ.more (f:=q5.is) q5.stb hi_q5
   exact oz rfl (fun _ hK=>wp_bld (v:=.agg #[s1.v,s3.v,.bool q5.b,.slice q5.a q5.n q5.c]) 32 #[(0,.tmp 9),(1,.tmp 16),(2,.tmp 23)] rfl (bmap3 (u:=s1.v) (v:=s3.v) (t:=q5.v) (zj (hin 2 9 rfl) e2) (zj (hin 9 16 rfl) e9) (zj (hin 16 23 rfl) e16)) (fun _=>by kernel_rfl) (hK _ _ (hJ.only [Cf bk3 #[.int .i64 (((n:Nat):Int))] 3,Cf bk1 #[a.v] 25,Mt (n+1) (fun _=>n+1) B a] (by simp)) ⟨s1,s3,q5,rfl,hi_s1,hi_s3,ez_q5,hi_q5⟩ vsm))
 clear hZ9
 intro uu W5 hZ10 hd
 have e_0:uu 0=.int .i64 (((n:Nat):Int)):=hd 0 (by decide)
 have e_1:uu 1=.func (.func 61) #[] #[.pointer (some ⟨bk1,0,none⟩),.pointer (some ⟨bk3,0,none⟩)]:=hd 1 (by decide)
 obtain ⟨s1,e_2,hi_s1⟩:=(show (vmt n (fun _=>n) B) (uu 2) XR2 W5 from hd 2 (by decide))
 have e_3:uu 3=a.v:=hd 3 (by decide)
 have e_4:uu 4=.int .i64 (((n:Nat):Int)):=hd 4 (by decide)
 have e_5:uu 5=(a.at 1 n):=hd 5 (by decide)
 obtain ⟨s2,e_6,hi_s2⟩:=(show (vls (n+1) (B n)) (uu 6) XR2 W5 from hd 6 (by decide))
 have e_7:uu 7=.int .i64 (((n:Nat):Int)):=hd 7 (by decide)
 have e_8:uu 8=.int .i64 (((n:Nat):Int)):=hd 8 (by decide)
 obtain ⟨s3,e_9,hi_s3⟩:=(show (vls n (B n)) (uu 9) XR2 W5 from hd 9 (by decide))
 have e_10:uu 10=a.v:=hd 10 (by decide)
 have e_11:uu 11=.int .i64 (((n:Nat):Int)):=hd 11 (by decide)
 have e_12:uu 12=(a.at 1 n):=hd 12 (by decide)
 obtain ⟨s4,e_13,hi_s4⟩:=(show (vls (n+1) (B n)) (uu 13) XR2 W5 from hd 13 (by decide))
 have e_14:uu 14=.int .i64 (((n:Nat):Int)):=hd 14 (by decide)
 obtain ⟨s4_15,e_15,hi_s4_15⟩:=(show (vat (n+1) (B n) n) (uu 15) XR2 W5 from hd 15 (by decide))
 obtain ⟨q5,e_16,ez_q5,hi_q5⟩:=(show (vnum (B n n)) (uu 16) XR2 W5 from hd 16 (by decide))
 obtain ⟨s1_17,s3_17,q5_17,e_17,hi_s1_17,hi_s3_17,ez_q5_17,hi_q5_17⟩:=(show (vux n B (B n) (B n n)) (uu 17) XR2 W5 from hd 17 (by decide))
 clear hd
 simp only [layS,Act.put,zzC,zzD,zzE,Nat.zero_add,Nat.reduceAdd,List.drop_succ_cons,List.drop_zero,List.drop_nil,e_0,e_1,e_2,e_3,e_4,e_5,e_6,e_7,e_8,e_9,e_10,e_11,e_12,e_13,e_14,e_15,e_16,e_17]
 clear e_0 e_1 e_2 e_3 e_4 e_5 e_6 e_7 e_8 e_9 e_10 e_11 e_12 e_13 e_14 e_15 e_16 e_17
 have hZ11:=hZ10.more (f:=Mt n (fun _=>n) B s1) (Mt.stb _ _ _ _) hi_s1
 clear hZ10 hi_s1
 have hZ12:=hZ11.more (f:=Ls (n+1) (B n) s2) (Ls.stb _ _ _) hi_s2
 clear hZ11 hi_s2
 have hZ13:=hZ12.more (f:=Ls n (B n) s3) (Ls.stb _ _ _) hi_s3
 clear hZ12 hi_s3
 have hZ14:=hZ13.more (f:=Ls (n+1) (B n) s4) (Ls.stb _ _ _) hi_s4
 clear hZ13 hi_s4
 have hZ15:=hZ14.more (f:=Ls (n+1) (B n) s4_15) (Ls.stb _ _ _) hi_s4_15
 clear hZ14 hi_s4_15
 have hZ16:=hZ15.more (f:=q5.is) q5.stb hi_q5
 clear hZ15 hi_q5
 have hZ17:=hZ16.more (f:=Mt n (fun _=>n) B s1_17) (Mt.stb _ _ _ _) hi_s1_17
 clear hZ16 hi_s1_17
 have hZ18:=hZ17.more (f:=Ls n (B n) s3_17) (Ls.stb _ _ _) hi_s3_17
 clear hZ17 hi_s3_17
 have hZ19:=hZ18.more (f:=q5_17.is) q5_17.stb hi_q5_17
 clear hZ18 hi_q5_17
 go_wp2_with (refine zss 32 (.tmp 2) (.tmp 24) 0 bk2 0 #[.slice none 0 0,.slice none 0 0,.bool false,.slice none 0 0] 32 4 [s1_17.v,s3_17.v,.bool q5_17.b,.slice q5_17.a q5_17.n q5_17.c] #[s1_17.v,s3_17.v,.bool q5_17.b,.slice q5_17.a q5_17.n q5_17.c] [(bk2,#[s1_17.v,s3_17.v,.bool q5_17.b,.slice q5_17.a q5_17.n q5_17.c],32)] rfl rfl rfl rfl sz32 hZ19 rfl rfl (zzF (by kernel_rfl)) (by kernel_rfl) (by kernel_rfl) (by kernel_rfl) (fun W6 hZ20=>?_))
 clear hZ19
 simp only [Stop,Act.put,zzC,zzD,zzE]
 go_wp2
 exact bodyPost_ret (v:=.agg #[s1_17.v,s3_17.v,.bool q5_17.b,.slice q5_17.a q5_17.n q5_17.c]) (results_cell 0 Tryz.results26 hZ20.es rfl ag32 sz32 (zzF (by kernel_rfl)) rfl (by kernel_rfl)) rfl ⟨s1_17,s3_17,q5_17,rfl,(hZ20.out 2 (f:=Mt n (fun _=>n) B s1_17) rfl),(hZ20.out 1 (f:=Ls n (B n) s3_17) rfl),ez_q5_17,hZ20.out 0 (f:=q5_17.is) rfl,hZ20.below⟩
set_option maxRecDepth 100000 in
set_option maxHeartbeats 12800000 in
theorem uLead11 {X0:Nat→Prop} {w:World} (hX:NX X0 w) {n:Nat} {a:Sl} {B:Nat→Nat→Int} (bP bI i j:Nat) (hi:i < n) (hj:j < n) (cP:Cf bP #[a.v] 26 X0 w) (cI:Cf bI #[.int .i64 ((i:Nat):Int)] 3 X0 w) (ha:Mt n (fun _=>n) B a X0 w):Calls Tryz.prog 57 #[.int .i64 ((j:Nat):Int),.pointer (some ⟨bP,0,none⟩),.pointer (some ⟨bI,0,none⟩)] w (PNX X0 (B i j) w):=by
 have hZ0:=zs_start hX
 have hZ1:=hZ0.more (f:=Cf bP #[a.v] 26) (Cf.stb _ _ _) cP
 clear hZ0
 have hZ2:=hZ1.more (f:=Cf bI #[.int .i64 (((i:Nat):Int))] 3) (Cf.stb _ _ _) cI
 clear hZ1
 have hZ3:=hZ2.more (f:=Mt n (fun _=>n) B a) (Mt.stb _ _ _ _) ha
 clear hZ2
 go_enter Tryz.func57,Tryz.ntmps57
 go_wp2_with (refine zsa 30 #[.bool false,.slice none 0 0] (.agg #[.bool false,.slice none 0 0]) rfl rfl zv30 rfl hZ3 (fun bk1 X4 W1 hZ4=>?_))
 clear hZ3
 simp only [Stop,Act.put,zzC,zzD,zzE]
 go_wp2_with (refine zso rfl (fun K hK=>wp_load1 (v:=a.v) 26 (.tmp 1) rfl bP 0 #[a.v] 26 (hZ4.get 2 (f:=Cf bP #[a.v] 26) rfl).1 rfl ag26 (by kernel_rfl) (hK _ _ ?_)))
 simp only [Stop,Act.put,zzC,zzD,zzE]
 go_wp2_with (refine zso rfl (fun K hK=>wp_load1 (v:=.int .i64 (((i:Nat):Int))) 3 (.tmp 2) rfl bI 0 #[.int .i64 (((i:Nat):Int))] 3 (hZ4.get 1 (f:=Cf bI #[.int .i64 (((i:Nat):Int))] 3) rfl).1 rfl ag3 (by kernel_rfl) (hK _ _ ?_)))
 simp only [Stop,Act.put,zzC,zzD,zzE]
 go_wp2_with (refine zso rfl (fun K hK=>wp_ixs 26 (.tmp 5) (.tmp 6) a i 1 27 rfl rfl rfl (by kernel_rfl) sz27 (fun h=>((hZ4.get 0 (f:=Mt n (fun _=>n) B a) rfl).sq.nil h).1) ((hZ4.get 0 (f:=Mt n (fun _=>n) B a) rfl).n ▸ (by omega)) (hK _ _ ?_)))
 simp only [Stop,Act.put,zzC,zzD,zzE]
 go_wp2_with (refine zso rfl (fun K hK=>wp_ldm 27 (.tmp 7) a i n (fun _=>n) B rfl rfl (hZ4.get 0 (f:=Mt n (fun _=>n) B a) rfl) (by omega) ag27 (fun s1 hi_s1=>hK _ _ ?_)))
 simp only [Stop,Act.put,zzC,zzD,zzE]
 have hZ5:=hZ4.more (f:=Ls n (B i) s1) (Ls.stb _ _ _) hi_s1
 clear hZ4 hi_s1
 go_wp2_with (refine zso rfl (fun K hK=>wp_ixs 27 (.tmp 8) (.tmp 9) s1 j 2 30 rfl rfl rfl (by kernel_rfl) sz30 (fun h=>((hZ5.get 0 (f:=Ls n (B i) s1) rfl).sq.nil h).1) ((hZ5.get 0 (f:=Ls n (B i) s1) rfl).n ▸ (by omega)) (hK _ _ ?_)))
 simp only [Stop,Act.put,zzC,zzD,zzE]
 go_wp2_with (refine zso rfl (fun K hK=>wp_ldn 30 (.tmp 10) s1 j n (B i) rfl rfl (hZ5.get 0 (f:=Ls n (B i) s1) rfl) (by omega) ag30 sz30 (fun q2 ez_q2 hi_q2=>hK _ _ ?_)))
 simp only [Stop,Act.put,zzC,zzD,zzE]
 have hZ6:=hZ5.more (f:=q2.is) q2.stb hi_q2
 clear hZ5 hi_q2
 go_wp2_with (refine zss 30 (.tmp 4) (.tmp 11) 0 bk1 0 #[.bool false,.slice none 0 0] 30 2 [.bool q2.b,.slice q2.a q2.n q2.c] #[.bool q2.b,.slice q2.a q2.n q2.c] [(bk1,#[.bool q2.b,.slice q2.a q2.n q2.c],30)] rfl rfl rfl rfl sz30 hZ6 rfl rfl (zzF (by kernel_rfl)) (by kernel_rfl) (by kernel_rfl) (by kernel_rfl) (fun W2 hZ7=>?_))
 clear hZ6
 simp only [Stop,Act.put,zzC,zzD,zzE]
 go_wp2
 exact bodyPost_ret (v:=q2.v) (results_cell 0 Tryz.results57 hZ7.es rfl ag30 sz30 (zzF (by kernel_rfl)) rfl (by kernel_rfl)) rfl ⟨q2,rfl,ez_q2,hZ7.out 0 (f:=q2.is) rfl,hZ7.below⟩
set_option maxRecDepth 100000 in
set_option maxHeartbeats 12800000 in
theorem uLead1 {X0:Nat→Prop} {w:World} (hX:NX X0 w) {n k:Nat} {a:Sl} {B:Nat→Nat→Int} (bK bP i:Nat) (hk:k≤n) (hn:n≤100) (hi:i < k) (cK:Cf bK #[.int .i64 ((k:Nat):Int)] 3 X0 w) (cP:Cf bP #[a.v] 26 X0 w) (ha:Mt n (fun _=>n) B a X0 w):Calls Tryz.prog 56 #[.int .i64 ((i:Nat):Int),.pointer (some ⟨bK,0,none⟩),.pointer (some ⟨bP,0,none⟩)] w (PLX X0 k (B i) w):=by
 have hZ0:=zs_start hX
 have hZ1:=hZ0.more (f:=Cf bP #[a.v] 26) (Cf.stb _ _ _) cP
 clear hZ0
 have hZ2:=hZ1.more (f:=Cf bK #[.int .i64 (((k:Nat):Int))] 3) (Cf.stb _ _ _) cK
 clear hZ1
 have hZ3:=hZ2.more (f:=Mt n (fun _=>n) B a) (Mt.stb _ _ _ _) ha
 clear hZ2
 go_enter Tryz.func56,Tryz.ntmps56
 go_wp2_with (refine zsb 3 (.tmp 0) #[.int .i64 (((i:Nat):Int))] rfl rfl rfl hZ3 (fun bk1 X4 W1 hZ4=>?_))
 clear hZ3
 simp only [Stop,Act.put,zzC,zzD,zzE]
 have hZ5:=hZ4.release hX
 clear hZ4
 go_wp2_with (refine zso rfl (fun K hK=>wp_load1 (v:=.int .i64 (((k:Nat):Int))) 3 (.tmp 1) rfl bK 0 #[.int .i64 (((k:Nat):Int))] 3 (hZ5.get 2 (f:=Cf bK #[.int .i64 (((k:Nat):Int))] 3) rfl).1 rfl ag3 (by kernel_rfl) (hK _ _ ?_)))
 simp only [Stop,Act.put,zzC,zzD,zzE]
 go_wp2_with (refine zso rfl (fun K hK=>wp_mkf 57 #[.tmp 2,.tmp 3] #[.pointer (some ⟨bP,0,none⟩),.pointer (some ⟨bk1,0,none⟩)] rfl (map2 rfl rfl) (hK _ _ ?_)))
 simp only [Stop,Act.put,zzC,zzD,zzE]
 go_wp2_with fail
 refine (uMadeN hZ5.nx k 57 #[.pointer (some ⟨bP,0,none⟩),.pointer (some ⟨bk1,0,none⟩)] (B i) (by omega) ⟨fun _ _=>rfl,fun j hj X' W' hx he hb=>(show Calls _ _ #[.int .i64 ((j:Nat):Int),.pointer (some ⟨bP,0,none⟩),.pointer (some ⟨bk1,0,none⟩)] _ _ from uLead11 hx bP bk1 i j (by omega) (by omega) (Cf.stb _ _ _ _ _ _ _ he (hZ5.get 3 (f:=Cf bP #[a.v] 26) rfl)) (Cf.stb _ _ _ _ _ _ _ he (hZ5.get 0 (f:=Cf bk1 #[.int .i64 (((i:Nat):Int))] 3) rfl)) (Mt.stb _ _ _ _ _ _ _ _ he (hZ5.get 1 (f:=Mt n (fun _=>n) B a) rfl)))⟩).mono ?_
 rintro zz W2 ⟨s1,rfl,hi_s1,hB⟩
 have hZ6:=hZ5.later hB
 clear hB hZ5
 have hZ7:=hZ6.more (f:=Ls k (B i) s1) (Ls.stb _ _ _) hi_s1
 clear hZ6 hi_s1
 go_wp2
 go_ret
 exact ⟨s1,rfl,hZ7.out 0 (f:=Ls k (B i) s1) rfl,hZ7.below⟩
set_option maxRecDepth 100000 in
set_option maxHeartbeats 12800000 in
theorem uLead {X0:Nat→Prop} {w:World} (hX:NX X0 w) (a:Sl) (k:Nat) {n:Nat} {B:Nat→Nat→Int} (ha:Mt n (fun _=>n) B a X0 w) (hk:k≤n) (hn:n≤100):Calls Tryz.prog 23 #[a.v,.int .i64 ((k:Nat):Int)] w (PMX X0 k (fun _=>k) B w):=by
 have hZ0:=zs_start hX
 have hZ1:=hZ0.more (f:=Mt n (fun _=>n) B a) (Mt.stb _ _ _ _) ha
 clear hZ0
 go_enter Tryz.func23,Tryz.ntmps23
 go_wp2_with (refine zsb 26 (.tmp 0) #[a.v] rfl rfl rfl hZ1 (fun bk1 X2 W1 hZ2=>?_))
 clear hZ1
 simp only [Stop,Act.put,zzC,zzD,zzE]
 go_wp2_with (refine zsb 3 (.tmp 1) #[.int .i64 (((k:Nat):Int))] rfl rfl rfl hZ2 (fun bk2 X3 W2 hZ3=>?_))
 clear hZ2
 simp only [Stop,Act.put,zzC,zzD,zzE]
 have hZ4:=hZ3.release hX
 clear hZ3
 have hZ5:=hZ4.release hX
 clear hZ4
 go_wp2_with (refine zso rfl (fun K hK=>wp_load1 (v:=.int .i64 (((k:Nat):Int))) 3 (.tmp 3) rfl bk2 0 #[.int .i64 (((k:Nat):Int))] 3 (hZ5.get 1 (f:=Cf bk2 #[.int .i64 (((k:Nat):Int))] 3) rfl).1 rfl ag3 (by kernel_rfl) (hK _ _ ?_)))
 simp only [Stop,Act.put,zzC,zzD,zzE]
 go_wp2_with (refine zso rfl (fun K hK=>wp_mkf 56 #[.tmp 3,.tmp 2] #[.pointer (some ⟨bk2,0,none⟩),.pointer (some ⟨bk1,0,none⟩)] rfl (map2 rfl rfl) (hK _ _ ?_)))
 simp only [Stop,Act.put,zzC,zzD,zzE]
 go_wp2_with fail
 refine (uMadeL hZ5.nx k 56 #[.pointer (some ⟨bk2,0,none⟩),.pointer (some ⟨bk1,0,none⟩)] (fun _=>k) B (by omega) ⟨fun _ _=>rfl,fun i hi X' W' hx he hb=>(show Calls _ _ #[.int .i64 ((i:Nat):Int),.pointer (some ⟨bk2,0,none⟩),.pointer (some ⟨bk1,0,none⟩)] _ _ from uLead1 hx bk2 bk1 i hk hn hi (Cf.stb _ _ _ _ _ _ _ he (hZ5.get 1 (f:=Cf bk2 #[.int .i64 (((k:Nat):Int))] 3) rfl)) (Cf.stb _ _ _ _ _ _ _ he (hZ5.get 0 (f:=Cf bk1 #[a.v] 26) rfl)) (Mt.stb _ _ _ _ _ _ _ _ he (hZ5.get 2 (f:=Mt n (fun _=>n) B a) rfl)))⟩).mono ?_
 rintro zz W3 ⟨s1,rfl,hi_s1,hB⟩
 have hZ6:=hZ5.later hB
 clear hB hZ5
 have hZ7:=hZ6.more (f:=Mt k (fun _=>k) B s1) (Mt.stb _ _ _ _) hi_s1
 clear hZ6 hi_s1
 go_wp2
 go_ret
 exact ⟨s1,rfl,hZ7.out 0 (f:=Mt k (fun _=>k) B s1) rfl,hZ7.below⟩
open Classical in
set_option maxRecDepth 100000 in
set_option maxHeartbeats 12800000 in
theorem uOwn {X0:Nat→Prop} {w:World} (hX:NX X0 w) (a:Sl) {m:Nat} {B:Nat→Nat→Int} (hm:m≤100) (ha:Mt m (fun _=>m) B a X0 w):Calls Tryz.prog 41 #[a.v] w (PVal (.bool (decide (Sym m B))) w):=by
 have hZ0:=zs_start hX
 have hZ1:=hZ0.more (f:=Mt m (fun _=>m) B a) (Mt.stb _ _ _ _) ha
 clear hZ0
 go_enter Tryz.func41,Tryz.ntmps41
 go_wp2_with fail
 refine (lTurned hZ1.nx a (by omega) (hZ1.get 0 (f:=Mt m (fun _=>m) B a) rfl)).mono ?_
 rintro zz W1 ⟨s1,rfl,hi_s1,hB⟩
 have hZ2:=hZ1.later hB
 clear hB hZ1
 have hZ3:=hZ2.more (f:=Mt m (fun _=>m) (fun i j=>B j i) s1) (Mt.stb _ _ _ _) hi_s1
 clear hZ2 hi_s1
 go_wp2_with (refine zso rfl (fun K hK=>wp_lenq (.tmp 10) 26 27 a rfl (by kernel_rfl) rfl (hZ3.get 1 (f:=Mt m (fun _=>m) B a) rfl).n (hK _ _ ?_)))
 simp only [Stop,Act.put,zzC,zzD,zzE]
 have hZ4:=hZ3.only [Mt m (fun _=>m) B a,Mt m (fun _=>m) (fun i j=>B j i) s1] (by simp)
 clear hZ3
 go_wp2
 go_loopw [12] (fun iv wr=>∃ (i:Nat) (X:Nat→Prop),i≤m∧iv=.int .i64 ((i:Nat):Int)∧Hid (∀ x y,x < i→y < m→B x y=B y x)∧Zs w wr X0 X [] [Mt m (fun _=>m) B a,Mt m (fun _=>m) (fun i j=>B j i) s1]) (fun iv _=>m - (intOf iv).toNat)
 case atStart=>exact ⟨0,_,by omega,rfl,Lib.hid (fun x y hx _=>absurd hx (Nat.not_lt_zero x)),hZ4⟩
 case round =>
  clear hZ4
  obtain ⟨i,X,hi,rfl,HY,hZ⟩:=hrel
  by_cases hlt:i < m
  ·
   go_wp2_with (refine zso rfl (fun K hK=>wp_lssi (.tmp 12) (.tmp 11) rfl rfl rfl (r:=true) (decide_eq_true (by omega)) (hK _ _ ?_)))
   simp only [Stop,Act.put,zzC,zzD,zzE]
   go_wp2_with (refine zso rfl (fun K hK=>wp_ixs 26 (.tmp 10) (.tmp 12) a i 1 27 rfl rfl rfl (by kernel_rfl) sz27 (fun h=>((hZ.get 0 (f:=Mt m (fun _=>m) B a) rfl).sq.nil h).1) ((hZ.get 0 (f:=Mt m (fun _=>m) B a) rfl).n ▸ (by omega)) (hK _ _ ?_)))
   simp only [Stop,Act.put,zzC,zzD,zzE]
   go_wp2_with (refine zso rfl (fun K hK=>wp_ldm 27 (.tmp 15) a i m (fun _=>m) B rfl rfl (hZ.get 0 (f:=Mt m (fun _=>m) B a) rfl) (by omega) ag27 (fun s2 hi_s2=>hK _ _ ?_)))
   simp only [Stop,Act.put,zzC,zzD,zzE]
   have hZ5:=hZ.more (f:=Ls m (B i) s2) (Ls.stb _ _ _) hi_s2
   clear hZ hi_s2
   go_wp2_with (refine zso rfl (fun K hK=>wp_lenq (.tmp 17) 27 30 s2 rfl (by kernel_rfl) rfl (hZ5.get 0 (f:=Ls m (B i) s2) rfl).n (hK _ _ ?_)))
   simp only [Stop,Act.put,zzC,zzD,zzE]
   have hZ6:=hZ5.only [Ls m (B i) s2,Mt m (fun _=>m) B a,Mt m (fun _=>m) (fun i j=>B j i) s1] (by simp)
   clear hZ5
   go_wp2
   obtain ⟨wo,rfl⟩:∃ wo:World,wo=wr:=⟨_,rfl⟩
   go_wp2
   go_loopw [19] (fun jv wr=>∃ (j:Nat) (X:Nat→Prop),j≤m∧jv=.int .i64 ((j:Nat):Int)∧Hid (∀ y,y < j→B i y=B y i)∧Zs w wr X0 X [] [Ls m (B i) s2,Mt m (fun _=>m) B a,Mt m (fun _=>m) (fun i j=>B j i) s1]) (fun iv _=>m - (intOf iv).toNat)
   case atStart=>exact ⟨0,_,by omega,rfl,Lib.hid (fun y hy=>absurd hy (Nat.not_lt_zero y)),hZ6⟩
   case round =>
    clear hZ6
    obtain ⟨j,Xi,hj,rfl,HR,hZi⟩:=hrel
    by_cases hlj:j < m
    ·
     by_cases he:B i j=B j i
     ·
      have HE:=Lib.hid he
      clear he
      go_wp2_with (refine zso rfl (fun K hK=>wp_lssi (.tmp 19) (.tmp 18) rfl rfl rfl (r:=true) (decide_eq_true (by omega)) (hK _ _ ?_)))
      simp only [Stop,Act.put,zzC,zzD,zzE]
      go_wp2_with (refine zso rfl (fun K hK=>wp_ixs 27 (.tmp 17) (.tmp 19) s2 j 2 30 rfl rfl rfl (by kernel_rfl) sz30 (fun h=>((hZi.get 0 (f:=Ls m (B i) s2) rfl).sq.nil h).1) ((hZi.get 0 (f:=Ls m (B i) s2) rfl).n ▸ (by omega)) (hK _ _ ?_)))
      simp only [Stop,Act.put,zzC,zzD,zzE]
      go_wp2_with (refine zso rfl (fun K hK=>wp_ldn 30 (.tmp 22) s2 j m (B i) rfl rfl (hZi.get 0 (f:=Ls m (B i) s2) rfl) (by omega) ag30 sz30 (fun q3 ez_q3 hi_q3=>hK _ _ ?_)))
      simp only [Stop,Act.put,zzC,zzD,zzE]
      have hZ7:=hZi.more (f:=q3.is) q3.stb hi_q3
      clear hZi hi_q3
      go_wp2_with (refine zsa 30 #[.bool false,.slice none 0 0] (.agg #[.bool false,.slice none 0 0]) rfl rfl zv30 rfl hZ7 (fun bk1 X8 W2 hZ8=>?_))
      clear hZ7
      simp only [Stop,Act.put,zzC,zzD,zzE]
      go_wp2_with (refine zss 30 (.tmp 7) (.tmp 23) 0 bk1 0 #[.bool false,.slice none 0 0] 30 2 [.bool q3.b,.slice q3.a q3.n q3.c] #[.bool q3.b,.slice q3.a q3.n q3.c] [(bk1,#[.bool q3.b,.slice q3.a q3.n q3.c],30)] rfl rfl rfl rfl sz30 hZ8 rfl rfl (zzF (by kernel_rfl)) (by kernel_rfl) (by kernel_rfl) (by kernel_rfl) (fun W3 hZ9=>?_))
      clear hZ8
      simp only [Stop,Act.put,zzC,zzD,zzE]
      go_wp2
      obtain ⟨XR8,hZ10⟩:∃ Xr,Zs w W3 X0 Xr [(bk1,#[.bool q3.b,.slice q3.a q3.n q3.c],30)] [q3.is,Ls m (B i) s2,Mt m (fun _=>m) B a,Mt m (fun _=>m) (fun i j=>B j i) s1]:=⟨_,hZ9⟩
      clear hZ9
      refine zrp 10 [some 24,some 25,some 26,some 27,some 28,some 29,some 30,some 31,some 32,some 33] [veq (q3.v),veq (s1.v),veq (.int .i64 (((i:Nat):Int))),veq ((s1.at 1 i)),vls m ((fun i j=>B j i) i),veq (.int .i64 (((j:Nat):Int))),vat m ((fun i j=>B j i) i) j,vnum (((fun i j=>B j i) i) j),veq (.int .i64 ((cmpI (B i j) (((fun i j=>B j i) i) j)))),veq (.bool false)] (by kernel_rfl) (by kernel_rfl) (by rfl) (by decide) (by rfl) hZ10 ?_ ?_
      ·
       intro iq hlq hiq LL uu ww aa hLi hLc hJ hd hall hev hin hold
       clear hZ10
       obtain rfl | rfl | rfl | rfl | rfl | rfl | rfl | rfl | rfl | rfl:iq=0∨iq=1∨iq=2∨iq=3∨iq=4∨iq=5∨iq=6∨iq=7∨iq=8∨iq=9:=by omega
       ·
        exact oz rfl (fun _ hK=>wp_load 30 (.tmp 7) rfl bk1 0 2 #[.bool q3.b,.slice q3.a q3.n q3.c] #[.bool q3.b,.slice q3.a q3.n q3.c] 30 (hJ.es.at' _ (zzG (i:=0) rfl)) (zet ((hev 7 (by decide)).trans rfl)) ag30 sz30 (zzF (by kernel_rfl)) (by kernel_rfl) (hK _ _ hJ rfl vsm))
       ·
        exact oz rfl (fun _ hK=>wp_move (.tmp 3) rfl (zet ((hev 3 (by decide)).trans rfl)) (hK _ _ hJ rfl vsm))
       ·
        exact oz rfl (fun _ hK=>wp_move (.tmp 4) rfl (zet ((hev 4 (by decide)).trans rfl)) (hK _ _ hJ rfl vsm))
       ·
        exact oz rfl (fun _ hK=>wp_ixs 26 (.tmp 25) (.tmp 26) s1 i 1 27 rfl (zj (hin 1 25 rfl) (show uu 1=s1.v from (hd 1 (by kernel_rfl)))) (zj (hin 2 26 rfl) (show uu 2=.int .i64 (((i:Nat):Int)) from (hd 2 (by kernel_rfl)))) (by kernel_rfl) sz27 (fun h=>((hJ.get 3 (f:=Mt m (fun _=>m) (fun i j=>B j i) s1) rfl).sq.nil h).1) ((hJ.get 3 (f:=Mt m (fun _=>m) (fun i j=>B j i) s1) rfl).n ▸ (by omega)) (hK _ _ hJ rfl vsm))
       ·
        exact oz rfl (fun _ hK=>wp_ldm 27 (.tmp 27) s1 i m (fun _=>m) (fun i j=>B j i) rfl (zj (hin 3 27 rfl) (show uu 3=(s1.at 1 i) from (hd 3 (by kernel_rfl)))) (hJ.get 3 (f:=Mt m (fun _=>m) (fun i j=>B j i) s1) rfl) (by omega) ag27 (fun s4 hi_s4=>hK _ _ hJ ⟨s4,rfl,hi_s4⟩ vsm))
       ·
        exact oz rfl (fun _ hK=>wp_move (.tmp 6) rfl (zet ((hev 6 (by decide)).trans rfl)) (hK _ _ hJ rfl vsm))
       ·
        obtain ⟨s4,e4,hi_s4⟩:=(show (vls m ((fun i j=>B j i) i)) (uu 4) XR8 ww from (hd 4 (by kernel_rfl)))
        replace hJ:=hJ.more (f:=Ls m ((fun i j=>B j i) i) s4) (Ls.stb _ _ _) hi_s4
        exact oz rfl (fun _ hK=>wp_ixs 27 (.tmp 28) (.tmp 29) s4 j 2 30 rfl (zj (hin 4 28 rfl) e4) (zj (hin 5 29 rfl) (show uu 5=.int .i64 (((j:Nat):Int)) from (hd 5 (by kernel_rfl)))) (by kernel_rfl) sz30 (fun h=>((hJ.get 0 (f:=Ls m ((fun i j=>B j i) i) s4) rfl).sq.nil h).1) ((hJ.get 0 (f:=Ls m ((fun i j=>B j i) i) s4) rfl).n ▸ (by omega)) (hK _ _ (hJ.only [q3.is,Ls m (B i) s2,Mt m (fun _=>m) B a,Mt m (fun _=>m) (fun i j=>B j i) s1] (by simp)) ⟨s4,rfl,hi_s4⟩ vsm))
       ·
        obtain ⟨s4,e6,hi_s4⟩:=(show (vat m ((fun i j=>B j i) i) j) (uu 6) XR8 ww from (hd 6 (by kernel_rfl)))
        replace hJ:=hJ.more (f:=Ls m ((fun i j=>B j i) i) s4) (Ls.stb _ _ _) hi_s4
        exact oz rfl (fun _ hK=>wp_ldn 30 (.tmp 30) s4 j m ((fun i j=>B j i) i) rfl (zj (hin 6 30 rfl) e6) (hJ.get 0 (f:=Ls m ((fun i j=>B j i) i) s4) rfl) (by omega) ag30 sz30 (fun q5 ez_q5 hi_q5=>hK _ _ (hJ.only [q3.is,Ls m (B i) s2,Mt m (fun _=>m) B a,Mt m (fun _=>m) (fun i j=>B j i) s1] (by simp)) ⟨q5,rfl,ez_q5,hi_q5⟩ vsm))
       ·
        obtain ⟨q5,e7,ez_q5,hi_q5⟩:=(show (vnum (((fun i j=>B j i) i) j)) (uu 7) XR8 ww from (hd 7 (by kernel_rfl)))
        replace hJ:=hJ.more (f:=q5.is) q5.stb hi_q5
        refine oz rfl (fun _ hK=>zcz (.func 9) #[.tmp 24,.tmp 31] #[30,30] 9 #[] #[q3.v,q5.v] _ rfl rfl (map2 (zj (hin 0 24 rfl) (show uu 0=q3.v from (hd 0 (by kernel_rfl)))) (zj (hin 7 31 rfl) e7)) rfl (fun _ _=>rfl) (zCmp (hJ.get 1 (f:=q3.is) rfl) (hJ.get 0 (f:=q5.is) rfl) ez_q3 ez_q5) ?_)
        rintro zz ww2 ⟨rfl,hB⟩
        exact ⟨_,rfl,hK _ _ ((hJ.only [q3.is,Ls m (B i) s2,Mt m (fun _=>m) B a,Mt m (fun _=>m) (fun i j=>B j i) s1] (by simp)).later hB) rfl (vlat hB)⟩
       ·
        exact oz rfl (fun _ hK=>wp_neqi (.tmp 32) (.const (.int .i64 0)) 3 3 rfl rfl (zj (hin 8 32 rfl) (show uu 8=.int .i64 ((cmpI (B i j) (((fun i j=>B j i) i) j))) from (hd 8 (by kernel_rfl)))) rfl (r:=false) (decide_eq_false (by rw [cmpI_ne]; exact fun h=>h HE.out)) (hK _ _ hJ rfl vsm))
      clear hZ10
      intro uu W4 hZ11 hd
      have e_0:uu 0=q3.v:=hd 0 (by decide)
      have e_1:uu 1=s1.v:=hd 1 (by decide)
      have e_2:uu 2=.int .i64 (((i:Nat):Int)):=hd 2 (by decide)
      have e_3:uu 3=(s1.at 1 i):=hd 3 (by decide)
      obtain ⟨s4,e_4,hi_s4⟩:=(show (vls m ((fun i j=>B j i) i)) (uu 4) XR8 W4 from hd 4 (by decide))
      have e_5:uu 5=.int .i64 (((j:Nat):Int)):=hd 5 (by decide)
      obtain ⟨s4_6,e_6,hi_s4_6⟩:=(show (vat m ((fun i j=>B j i) i) j) (uu 6) XR8 W4 from hd 6 (by decide))
      obtain ⟨q5,e_7,ez_q5,hi_q5⟩:=(show (vnum (((fun i j=>B j i) i) j)) (uu 7) XR8 W4 from hd 7 (by decide))
      have e_8:uu 8=.int .i64 ((cmpI (B i j) (((fun i j=>B j i) i) j))):=hd 8 (by decide)
      have e_9:uu 9=.bool false:=hd 9 (by decide)
      clear hd
      simp only [layS,Act.put,zzC,zzD,zzE,Nat.zero_add,Nat.reduceAdd,List.drop_succ_cons,List.drop_zero,List.drop_nil,e_0,e_1,e_2,e_3,e_4,e_5,e_6,e_7,e_8,e_9]
      clear e_0 e_1 e_2 e_3 e_4 e_5 e_6 e_7 e_8 e_9
      have hZ12:=hZ11.more (f:=Ls m ((fun i j=>B j i) i) s4) (Ls.stb _ _ _) hi_s4
      clear hZ11 hi_s4
      have hZ13:=hZ12.more (f:=Ls m ((fun i j=>B j i) i) s4_6) (Ls.stb _ _ _) hi_s4_6
      clear hZ12 hi_s4_6
      have hZ14:=hZ13.more (f:=q5.is) q5.stb hi_q5
      clear hZ13 hi_q5
      go_wp2_with (refine zso rfl (fun K hK=>wp_addi (.tmp 19) (.const (.int .i64 1)) rfl rfl rfl (C:=((j+1:Nat):Int)) (by omega) (by omega) (by omega) (hK _ _ ?_)))
      simp only [Stop,Act.put,zzC,zzD,zzE]
      have hZ15:=(hZ14.drop (List.sublist_cons_self _ _)).only [Ls m (B i) s2,Mt m (fun _=>m) B a,Mt m (fun _=>m) (fun i j=>B j i) s1] (by simp)
      go_wp2
      go_roundw
      case rel=>exact ⟨j+1,_,by omega,by go_num,Lib.hid (fun y hy=>by
        by_cases e:y=j
        ·
         rw [e]; exact HE.out
        ·
         exact HR.out y (by omega)),hZ15⟩
      case measure=>simp [intOf]; omega
     ·
      have HE:=Lib.hid he
      clear he
      go_wp2_with (refine zso rfl (fun K hK=>wp_lssi (.tmp 19) (.tmp 18) rfl rfl rfl (r:=true) (decide_eq_true (by omega)) (hK _ _ ?_)))
      simp only [Stop,Act.put,zzC,zzD,zzE]
      go_wp2_with (refine zso rfl (fun K hK=>wp_ixs 27 (.tmp 17) (.tmp 19) s2 j 2 30 rfl rfl rfl (by kernel_rfl) sz30 (fun h=>((hZi.get 0 (f:=Ls m (B i) s2) rfl).sq.nil h).1) ((hZi.get 0 (f:=Ls m (B i) s2) rfl).n ▸ (by omega)) (hK _ _ ?_)))
      simp only [Stop,Act.put,zzC,zzD,zzE]
      go_wp2_with (refine zso rfl (fun K hK=>wp_ldn 30 (.tmp 22) s2 j m (B i) rfl rfl (hZi.get 0 (f:=Ls m (B i) s2) rfl) (by omega) ag30 sz30 (fun q6 ez_q6 hi_q6=>hK _ _ ?_)))
      simp only [Stop,Act.put,zzC,zzD,zzE]
      have hZ16:=hZi.more (f:=q6.is) q6.stb hi_q6
      clear hZi hi_q6
      go_wp2_with (refine zsa 30 #[.bool false,.slice none 0 0] (.agg #[.bool false,.slice none 0 0]) rfl rfl zv30 rfl hZ16 (fun bk2 X17 W5 hZ17=>?_))
      clear hZ16
      simp only [Stop,Act.put,zzC,zzD,zzE]
      go_wp2_with (refine zss 30 (.tmp 7) (.tmp 23) 0 bk2 0 #[.bool false,.slice none 0 0] 30 2 [.bool q6.b,.slice q6.a q6.n q6.c] #[.bool q6.b,.slice q6.a q6.n q6.c] [(bk2,#[.bool q6.b,.slice q6.a q6.n q6.c],30)] rfl rfl rfl rfl sz30 hZ17 rfl rfl (zzF (by kernel_rfl)) (by kernel_rfl) (by kernel_rfl) (by kernel_rfl) (fun W6 hZ18=>?_))
      clear hZ17
      simp only [Stop,Act.put,zzC,zzD,zzE]
      go_wp2
      obtain ⟨XR8,hZ19⟩:∃ Xr,Zs w W6 X0 Xr [(bk2,#[.bool q6.b,.slice q6.a q6.n q6.c],30)] [q6.is,Ls m (B i) s2,Mt m (fun _=>m) B a,Mt m (fun _=>m) (fun i j=>B j i) s1]:=⟨_,hZ18⟩
      clear hZ18
      refine zrp 10 [some 24,some 25,some 26,some 27,some 28,some 29,some 30,some 31,some 32,some 33] [veq (q6.v),veq (s1.v),veq (.int .i64 (((i:Nat):Int))),veq ((s1.at 1 i)),vls m ((fun i j=>B j i) i),veq (.int .i64 (((j:Nat):Int))),vat m ((fun i j=>B j i) i) j,vnum (((fun i j=>B j i) i) j),veq (.int .i64 ((cmpI (B i j) (((fun i j=>B j i) i) j)))),veq (.bool true)] (by kernel_rfl) (by kernel_rfl) (by rfl) (by decide) (by rfl) hZ19 ?_ ?_
      ·
       intro iq hlq hiq LL uu ww aa hLi hLc hJ hd hall hev hin hold
       clear hZ19
       obtain rfl | rfl | rfl | rfl | rfl | rfl | rfl | rfl | rfl | rfl:iq=0∨iq=1∨iq=2∨iq=3∨iq=4∨iq=5∨iq=6∨iq=7∨iq=8∨iq=9:=by omega
       ·
        exact oz rfl (fun _ hK=>wp_load 30 (.tmp 7) rfl bk2 0 2 #[.bool q6.b,.slice q6.a q6.n q6.c] #[.bool q6.b,.slice q6.a q6.n q6.c] 30 (hJ.es.at' _ (zzG (i:=0) rfl)) (zet ((hev 7 (by decide)).trans rfl)) ag30 sz30 (zzF (by kernel_rfl)) (by kernel_rfl) (hK _ _ hJ rfl vsm))
       ·
        exact oz rfl (fun _ hK=>wp_move (.tmp 3) rfl (zet ((hev 3 (by decide)).trans rfl)) (hK _ _ hJ rfl vsm))
       ·
        exact oz rfl (fun _ hK=>wp_move (.tmp 4) rfl (zet ((hev 4 (by decide)).trans rfl)) (hK _ _ hJ rfl vsm))
       ·
        exact oz rfl (fun _ hK=>wp_ixs 26 (.tmp 25) (.tmp 26) s1 i 1 27 rfl (zj (hin 1 25 rfl) (show uu 1=s1.v from (hd 1 (by kernel_rfl)))) (zj (hin 2 26 rfl) (show uu 2=.int .i64 (((i:Nat):Int)) from (hd 2 (by kernel_rfl)))) (by kernel_rfl) sz27 (fun h=>((hJ.get 3 (f:=Mt m (fun _=>m) (fun i j=>B j i) s1) rfl).sq.nil h).1) ((hJ.get 3 (f:=Mt m (fun _=>m) (fun i j=>B j i) s1) rfl).n ▸ (by omega)) (hK _ _ hJ rfl vsm))
       ·
        exact oz rfl (fun _ hK=>wp_ldm 27 (.tmp 27) s1 i m (fun _=>m) (fun i j=>B j i) rfl (zj (hin 3 27 rfl) (show uu 3=(s1.at 1 i) from (hd 3 (by kernel_rfl)))) (hJ.get 3 (f:=Mt m (fun _=>m) (fun i j=>B j i) s1) rfl) (by omega) ag27 (fun s7 hi_s7=>hK _ _ hJ ⟨s7,rfl,hi_s7⟩ vsm))
       ·
        exact oz rfl (fun _ hK=>wp_move (.tmp 6) rfl (zet ((hev 6 (by decide)).trans rfl)) (hK _ _ hJ rfl vsm))
       ·
        obtain ⟨s7,e4,hi_s7⟩:=(show (vls m ((fun i j=>B j i) i)) (uu 4) XR8 ww from (hd 4 (by kernel_rfl)))
        replace hJ:=hJ.more (f:=Ls m ((fun i j=>B j i) i) s7) (Ls.stb _ _ _) hi_s7
        exact oz rfl (fun _ hK=>wp_ixs 27 (.tmp 28) (.tmp 29) s7 j 2 30 rfl (zj (hin 4 28 rfl) e4) (zj (hin 5 29 rfl) (show uu 5=.int .i64 (((j:Nat):Int)) from (hd 5 (by kernel_rfl)))) (by kernel_rfl) sz30 (fun h=>((hJ.get 0 (f:=Ls m ((fun i j=>B j i) i) s7) rfl).sq.nil h).1) ((hJ.get 0 (f:=Ls m ((fun i j=>B j i) i) s7) rfl).n ▸ (by omega)) (hK _ _ (hJ.only [q6.is,Ls m (B i) s2,Mt m (fun _=>m) B a,Mt m (fun _=>m) (fun i j=>B j i) s1] (by simp)) ⟨s7,rfl,hi_s7⟩ vsm))
       ·
        obtain ⟨s7,e6,hi_s7⟩:=(show (vat m ((fun i j=>B j i) i) j) (uu 6) XR8 ww from (hd 6 (by kernel_rfl)))
        replace hJ:=hJ.more (f:=Ls m ((fun i j=>B j i) i) s7) (Ls.stb _ _ _) hi_s7
        exact oz rfl (fun _ hK=>wp_ldn 30 (.tmp 30) s7 j m ((fun i j=>B j i) i) rfl (zj (hin 6 30 rfl) e6) (hJ.get 0 (f:=Ls m ((fun i j=>B j i) i) s7) rfl) (by omega) ag30 sz30 (fun q8 ez_q8 hi_q8=>hK _ _ (hJ.only [q6.is,Ls m (B i) s2,Mt m (fun _=>m) B a,Mt m (fun _=>m) (fun i j=>B j i) s1] (by simp)) ⟨q8,rfl,ez_q8,hi_q8⟩ vsm))
       ·
        obtain ⟨q8,e7,ez_q8,hi_q8⟩:=(show (vnum (((fun i j=>B j i) i) j)) (uu 7) XR8 ww from (hd 7 (by kernel_rfl)))
        replace hJ:=hJ.more (f:=q8.is) q8.stb hi_q8
        refine oz rfl (fun _ hK=>zcz (.func 9) #[.tmp 24,.tmp 31] #[30,30] 9 #[] #[q6.v,q8.v] _ rfl rfl (map2 (zj (hin 0 24 rfl) (show uu 0=q6.v from (hd 0 (by kernel_rfl)))) (zj (hin 7 31 rfl) e7)) rfl (fun _ _=>rfl) (zCmp (hJ.get 1 (f:=q6.is) rfl) (hJ.get 0 (f:=q8.is) rfl) ez_q6 ez_q8) ?_)
        rintro zz ww2 ⟨rfl,hB⟩
        exact ⟨_,rfl,hK _ _ ((hJ.only [q6.is,Ls m (B i) s2,Mt m (fun _=>m) B a,Mt m (fun _=>m) (fun i j=>B j i) s1] (by simp)).later hB) rfl (vlat hB)⟩
       ·
        exact oz rfl (fun _ hK=>wp_neqi (.tmp 32) (.const (.int .i64 0)) 3 3 rfl rfl (zj (hin 8 32 rfl) (show uu 8=.int .i64 ((cmpI (B i j) (((fun i j=>B j i) i) j))) from (hd 8 (by kernel_rfl)))) rfl (r:=true) (decide_eq_true (by rw [cmpI_ne]; exact HE.out)) (hK _ _ hJ rfl vsm))
      clear hZ19
      intro uu W7 hZ20 hd
      have e_0:uu 0=q6.v:=hd 0 (by decide)
      have e_1:uu 1=s1.v:=hd 1 (by decide)
      have e_2:uu 2=.int .i64 (((i:Nat):Int)):=hd 2 (by decide)
      have e_3:uu 3=(s1.at 1 i):=hd 3 (by decide)
      obtain ⟨s7,e_4,hi_s7⟩:=(show (vls m ((fun i j=>B j i) i)) (uu 4) XR8 W7 from hd 4 (by decide))
      have e_5:uu 5=.int .i64 (((j:Nat):Int)):=hd 5 (by decide)
      obtain ⟨s7_6,e_6,hi_s7_6⟩:=(show (vat m ((fun i j=>B j i) i) j) (uu 6) XR8 W7 from hd 6 (by decide))
      obtain ⟨q8,e_7,ez_q8,hi_q8⟩:=(show (vnum (((fun i j=>B j i) i) j)) (uu 7) XR8 W7 from hd 7 (by decide))
      have e_8:uu 8=.int .i64 ((cmpI (B i j) (((fun i j=>B j i) i) j))):=hd 8 (by decide)
      have e_9:uu 9=.bool true:=hd 9 (by decide)
      clear hd
      simp only [layS,Act.put,zzC,zzD,zzE,Nat.zero_add,Nat.reduceAdd,List.drop_succ_cons,List.drop_zero,List.drop_nil,e_0,e_1,e_2,e_3,e_4,e_5,e_6,e_7,e_8,e_9]
      clear e_0 e_1 e_2 e_3 e_4 e_5 e_6 e_7 e_8 e_9
      have hZ21:=hZ20.more (f:=Ls m ((fun i j=>B j i) i) s7) (Ls.stb _ _ _) hi_s7
      clear hZ20 hi_s7
      have hZ22:=hZ21.more (f:=Ls m ((fun i j=>B j i) i) s7_6) (Ls.stb _ _ _) hi_s7_6
      clear hZ21 hi_s7_6
      have hZ23:=hZ22.more (f:=q8.is) q8.stb hi_q8
      clear hZ22 hi_q8
      go_wp2
      go_ret
      refine ⟨?_,hZ23.below⟩
      rw [show decide (Sym m B)=false from decide_eq_false (fun h=>HE.out (h i j (by omega) (by omega)))]
      rfl
    ·
     obtain rfl:m=j:=by omega
     go_wp2_with (refine zso rfl (fun K hK=>wp_lssi (.tmp 19) (.tmp 18) rfl rfl rfl (r:=false) (decide_eq_false (Int.lt_irrefl _)) (hK _ _ ?_)))
     simp only [Stop,Act.put,zzC,zzD,zzE]
     go_wp2_with (refine zso rfl (fun K hK=>wp_addi (.tmp 12) (.const (.int .i64 1)) rfl rfl rfl (C:=((i+1:Nat):Int)) (by omega) (by omega) (by omega) (hK _ _ ?_)))
     simp only [Stop,Act.put,zzC,zzD,zzE]
     have hZ24:=hZi.only [Mt m (fun _=>m) B a,Mt m (fun _=>m) (fun i j=>B j i) s1] (by simp)
     clear hZi
     go_wp2
     go_roundw
     case rel=>exact ⟨i+1,_,by omega,by go_num,Lib.hid (fun x y hx hy=>by
       by_cases e:x=i
       ·
        subst e; exact HR.out y hy
       ·
        exact HY.out x y (by omega) hy),hZ24⟩
     case measure=>simp [intOf]; omega
  ·
   obtain rfl:m=i:=by omega
   go_wp2_with (refine zso rfl (fun K hK=>wp_lssi (.tmp 12) (.tmp 11) rfl rfl rfl (r:=false) (decide_eq_false (Int.lt_irrefl _)) (hK _ _ ?_)))
   simp only [Stop,Act.put,zzC,zzD,zzE]
   go_wp2
   go_ret
   refine ⟨?_,hZ.below⟩
   rw [show decide (Sym m B)=true from decide_eq_true (fun x y hx hy=>HY.out x y hx hy)]
   rfl
end Go.Proofs.YtjclllindbfmhabGreatDoor
