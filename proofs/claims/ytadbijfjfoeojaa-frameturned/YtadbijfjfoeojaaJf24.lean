/- Parts of the proof. -/
import Derived.Test.YtadbijfjfoeojaaJf0
import Derived.Test.YtadbijfjfoeojaaJf23
import Derived.Test.YtadbijfjfoeojaaJf3
set_option linter.unusedSimpArgs false
set_option linter.unusedVariables false
/- Frames: the law FrameTurned. -/
namespace Go.Proofs.Ytadbijfjfoeojaa
open Go Go.RowKit
theorem frat_one {W:World} {v:Value} {f:UInt8 × List UInt8} {c:Nat} (h:FrAt W v [f] c):∃ o d,v=.slice (some ⟨c,o,none⟩) 1 d∧W.cell? ⟨c,o,none⟩=some (.int .u8 (f.1.toNat:Nat))∧W.cell? ⟨c,o+1,none⟩=some (.string ⟨f.2.toArray⟩):=by
 rcases h with ⟨h,_⟩ | ⟨_,o,d,e,_,h2⟩
 ·
  cases h
 ·
  have:=h2 0 Nat.zero_lt_one
  simp only [List.getElem_cons_zero,Nat.zero_mul,Nat.add_zero] at this
  exact ⟨o,d,e,this.1,this.2⟩
set_option maxRecDepth 100000 in
set_option maxHeartbeats 25600000 in
theorem FrameTurned_any {Scn} (P:FrameC Scn) (k:UInt8) (p:ByteArray) (z pt cut:Int) (pn:Nat) (w:World) (hs:p.size≤140737488355328) (z0:-9223372036854775808≤z) (z1:z≤9223372036854775807) (hpt:pt=(pn:Nat)) (hpn:pn < 65536) (c0:-9223372036854775808≤cut) (c1:cut≤9223372036854775807) :
  Calls Try.prog 7 #[.int .u8 (k.toNat:Nat),.string p,.int .i64 z,.int .u16 pt,.int .i64 cut] w (PVal (.bool true) w):=by
 have HA:=Lib.hid (fawake_any P)
 have HPP:=Lib.hid P
 have Hpt:=Lib.hid hpt
 have hptb:0≤pt∧pt < 65536:=by omega
 clear P hpt
 go_enter Try.func7,Try.ntmps7
 go_wp2_with fail
 refine (HA.out _).mono ?_
 rintro e0 W0 ⟨rfl,hB⟩
 by_cases hp64:p.size≤64
 ·
  go_wp2_with fail
  refine (HPP.out.wrap k p _ hp64).mono ?_
  rintro e1 W1 ⟨rfl,hC⟩
  replace hB:=hB.trans (hC.mono hB.size)
  clear hC
  obtain ⟨t,ht⟩:∃ t,t=wrapS k p:=⟨_,rfl⟩
  have hts:t.size=p.size+6:=by rw [ht,wrap_size]
  rw [← ht]
  have HT:=Lib.hid ht
  have Hp64:=Lib.hid hp64
  clear ht
  by_cases hz:z < 0
  ·
   have e1:decide (z < 0)=true:=decide_eq_true hz
   go_wp2
   go_ret
   exact ⟨rfl,hB⟩
  have e1:decide (z < 0)=false:=decide_eq_false hz
  by_cases hz2:8*(p.size:Int)+16≤z
  ·
   have e2:decide (8*(p.size:Int)+16≤z)=true:=decide_eq_true hz2
   go_wp2
   go_ret
   exact ⟨rfl,hB⟩
  have e2:decide (8*(p.size:Int)+16≤z)=false:=decide_eq_false hz2
  by_cases hc:cut < 0
  ·
   have e3:decide (cut < 0)=true:=decide_eq_true hc
   go_wp2
   go_ret
   exact ⟨rfl,hB⟩
  have e3:decide (cut < 0)=false:=decide_eq_false hc
  by_cases hc2:(t.size:Int)≤cut
  ·
   have e4:decide ((t.size:Int)≤cut)=true:=decide_eq_true hc2
   go_wp2
   go_ret
   exact ⟨rfl,hB⟩
  have e4:decide ((t.size:Int)≤cut)=false:=decide_eq_false hc2
  obtain ⟨cn,rfl⟩:=Int.eq_ofNat_of_zero_le (show 0≤cut by omega)
  obtain ⟨a0,ha0⟩:=Int.eq_ofNat_of_zero_le (show 0≤z by omega)
  obtain ⟨a,haa⟩:∃ a,a=32+a0:=⟨_,rfl⟩
  have Ha:Hid (z+32=(a:Nat)):=by show z+32=(a:Nat); omega
  have HA0:=Lib.hid haa
  clear ha0 haa
  go_wp2_with (refine zso rfl (fun K hK=>wp_cvb (.tmp 56) rfl rfl (fun g c W1 hg hc HBY hB2=>hK _ _ ?_)))
  simp only [Stop,Act.put,zzC,zzD,zzE]
  have hB1:=hB.trans (hB2.mono hB.size)
  have hgw:w.heap.size≤g:=Nat.le_trans hB.size hg
  clear hB2 hB
  obtain ⟨f,hf⟩:∃ f,f=byA t:=⟨_,rfl⟩
  rw [← hf] at HBY
  have Hf:=Lib.hid hf
  clear hf
  obtain ⟨pa,hp⟩:∃ pa,pa=patB pn:=⟨_,rfl⟩
  have Hp:=Lib.hid hp
  clear hp
  obtain ⟨N,hN⟩:∃ N,N=p.size+6:=⟨_,rfl⟩
  rw [hts,← hN] at HBY
  rw [← hN]
  have hN70:N≤70:=by omega
  have HN:Hid (N=p.size+6):=hN
  have hts2:t.size=N:=by rw [hts,hN]
  clear hts
  replace hN:=Lib.hid hN
  go_wp2
  go_loopw [15,16] (fun tv iv wr=>∃ i:Nat,(i≤16∧32+z+(i:Int)≤8*(N:Int))∧iv=.int .i64 i∧tv=.bool (anyN pa i)∧Byt wr g N (X.turnN f a pa i)∧Below w.heap.size w wr) (fun _ iv _=>16 - (intOf iv).toNat)
  case atStart=>exact ⟨0,by have:=HN.out; omega,rfl,rfl,HBY,hB1⟩
  case round =>
   obtain ⟨i,⟨hi,hiN⟩,rfl,rfl,hby,hbl⟩:=hrel
   clear HBY hB1
   by_cases h16:i < 16
   ·
    by_cases hin:32+z+(i:Int) < 8*(N:Int)
    ·
     have d2:decide (32+z+(i:Int) < 8*(N:Int))=true:=decide_eq_true hin
     have hsh:bits .and .u16 (pt / 2 ^ (15 - i)) 1=if pa i then 1 else 0:=by rw [Hpt.out,Hp.out]; exact shr_bit hpn (by omega)
     cases hp:pa i
     ·
      have HP:=Lib.hid hp
      rw [hp] at hsh
      simp only [Bool.false_eq_true,if_false] at hsh
      clear hp
      go_wp2
      go_roundw
      case rel=>exact ⟨i+1,⟨by omega,by omega⟩,by go_num,by show _=Value.bool (anyN pa i || pa i); rw [HP.out,Bool.or_false],by rw [turnN_no HP.out]; exact hby,hbl⟩
      case measure=>simp [intOf]; omega
     ·
      have HP:=Lib.hid hp
      rw [hp] at hsh
      simp only [if_true] at hsh
      clear hp
      obtain ⟨q,hq⟩:∃ q:Nat,q=(a+i) / 8:=⟨_,rfl⟩
      obtain ⟨r,hr⟩:∃ r:Nat,r=(a+i) % 8:=⟨_,rfl⟩
      obtain ⟨q4,hq4⟩:∃ q4:Nat,q4+4=q:=⟨q - 4,by have:=Ha.out; omega⟩
      have hz:=Ha.out
      have hqN:q < N:=by omega
      have hq1:(z+(i:Int)) / 8=(q4:Nat):=by omega
      have hq2:(z+(i:Int)).tdiv 8=(q4:Nat):=by rw [Int.tdiv_eq_ediv_of_nonneg (by omega)]; omega
      have hq5:(4:Int)+(q4:Nat)=(q:Nat):=by omega
      have hr1:(z+(i:Int)) % 8=(r:Nat):=by omega
      have hr2:(z+(i:Int)).tmod 8=(r:Nat):=by rw [Int.tmod_eq_emod_of_nonneg (by omega)]; omega
      have hr8:r < 8:=by omega
      have hw1:IntKind.i64.wrap (z+(i:Int))=z+(i:Int):=IntWalk.i64_in _ ⟨by omega,by omega⟩
      have hw2:IntKind.i64.wrap (q4:Int)=(q4:Int):=IntWalk.i64_in _ ⟨by omega,by omega⟩
      have hw3:IntKind.i64.wrap (q:Int)=(q:Int):=IntWalk.i64_in _ ⟨by omega,by omega⟩
      obtain ⟨F,hF⟩:∃ F,F=X.turnN f a pa i:=⟨_,rfl⟩
      rw [← hF] at hby
      have hFl:F q < 256:=by rw [hF]; exact X.turnN_lt (by rw [Hf.out]; exact byA_lt _) a pa i q
      obtain ⟨m,hm⟩:∃ m:Int,m=(128 >>> r:Nat):=⟨_,rfl⟩
      have hm1:(128:Int) / 2 ^ r=m:=by rw [hm,Nat.shiftRight_eq_div_pow]; rfl
      have hmb:0≤m∧m < 256:=by rw [hm]; exact ⟨Int.natCast_nonneg _,by exact_mod_cast Nat.lt_of_le_of_lt (Nat.shiftRight_le 128 r) (show 128 < 256 by decide)⟩
      obtain ⟨x,hx⟩:∃ x:Int,x=(F q ^^^ 128 >>> r:Nat):=⟨_,rfl⟩
      have hx1:bits .xor .u8 (F q:Nat) m=x:=by rw [hx,hm]; exact u8_xor_nat _ _ hFl (by have:=Nat.shiftRight_le 128 r; omega)
      have HF:=Lib.hid hF
      have HX:=Lib.hid hx
      have HQ:=Lib.hid hq
      have HR:=Lib.hid hr
      clear hF hx hm hq hr hz
      replace hq4:=Lib.hid hq4
      have hfree:=hby.free hqN
      have hcell:=hby.cell hqN
      go_wp2
      refine wp_region_vals 21 [some 78,some 79,some 80,some 81,some 82,some 83,some 84,some 85,some 86,some 87,some 88,some 89,some 90,some 91,some 92,some 93,some 94,some 95,some 96,some 97,some 98] (lstV [.slice (some ⟨g,0,none⟩) N c,.int .i64 z,.int .i64 (i:Nat),.int .i64 (z+(i:Int)),.int .i64 (q4:Nat),.int .i64 (q:Nat),.slice (some ⟨g,0,none⟩) N c,.int .i64 z,.int .i64 (i:Nat),.int .i64 (z+(i:Int)),.int .i64 (q4:Nat),.int .i64 (q:Nat),.pointer (some ⟨g,q,none⟩),.int .u8 (F q:Nat),.int .i64 z,.int .i64 (i:Nat),.int .i64 (z+(i:Int)),.int .i64 (r:Nat),.int .u8 m,.int .u8 x,.pointer (some ⟨g,q,none⟩)]) (fun W=>Byt W g N F∧Below w.heap.size w W) (by kernel_rfl) (by kernel_rfl) (by decide) (⟨hby.below (Below.refl _ _).drew,hbl.drew⟩) ?_ ?_
      ·
       intro qq hl hi u W hJ hd
       obtain rfl | rfl | rfl | rfl | rfl | rfl | rfl | rfl | rfl | rfl | rfl | rfl | rfl | rfl | rfl | rfl | rfl | rfl | rfl | rfl | rfl:qq=0∨qq=1∨qq=2∨qq=3∨qq=4∨qq=5∨qq=6∨qq=7∨qq=8∨qq=9∨qq=10∨qq=11∨qq=12∨qq=13∨qq=14∨qq=15∨qq=16∨qq=17∨qq=18∨qq=19∨qq=20:=by omega
       ·
        clear hd
        simp only [zzA,zzB]
        clear hl
        refine .inr ⟨rfl,fun K' hK=>?_⟩
        have HK:=Lib.hid hK
        clear hK
        simp only [layS,Act.put,zzC,zzD,zzE,Nat.zero_add,Nat.reduceAdd]
        go_simp
        exact HK.out _ _ (by simp [layS,updV,lstV,Act.put]) hJ
       ·
        clear hd
        simp only [zzA,zzB]
        clear hl
        refine .inr ⟨rfl,fun K' hK=>?_⟩
        have HK:=Lib.hid hK
        clear hK
        simp only [layS,Act.put,zzC,zzD,zzE,Nat.zero_add,Nat.reduceAdd]
        go_simp
        exact HK.out _ _ (by simp [layS,updV,lstV,Act.put]) hJ
       ·
        clear hd
        simp only [zzA,zzB]
        clear hl
        refine .inr ⟨rfl,fun K' hK=>?_⟩
        have HK:=Lib.hid hK
        clear hK
        simp only [layS,Act.put,zzC,zzD,zzE,Nat.zero_add,Nat.reduceAdd]
        go_simp
        exact HK.out _ _ (by simp [layS,updV,lstV,Act.put]) hJ
       ·
        have e1:u 1=.int .i64 z:=hd 1 (by kernel_rfl)
        have e2:u 2=.int .i64 (i:Nat):=hd 2 (by kernel_rfl)
        clear hd
        simp only [zzA,zzB]
        clear hl
        refine .inr ⟨rfl,fun K' hK=>?_⟩
        have HK:=Lib.hid hK
        clear hK
        simp only [layS,Act.put,zzC,zzD,zzE,Nat.zero_add,Nat.reduceAdd,e1,e2]
        have E1:=Lib.hid e1
        have E2:=Lib.hid e2
        clear e1 e2
        go_simp
        exact HK.out _ _ (by simp [layS,updV,lstV,Act.put,E1.out,E2.out]) hJ
       ·
        have e3:u 3=.int .i64 (z+(i:Int)):=hd 3 (by kernel_rfl)
        clear hd
        simp only [zzA,zzB]
        clear hl
        refine .inr ⟨rfl,fun K' hK=>?_⟩
        have HK:=Lib.hid hK
        clear hK
        simp only [layS,Act.put,zzC,zzD,zzE,Nat.zero_add,Nat.reduceAdd,e3]
        have E3:=Lib.hid e3
        clear e3
        go_simp
        exact HK.out _ _ (by simp [layS,updV,lstV,Act.put,E3.out]) hJ
       ·
        have e4:u 4=.int .i64 (q4:Nat):=hd 4 (by kernel_rfl)
        clear hd
        simp only [zzA,zzB]
        clear hl
        refine .inr ⟨rfl,fun K' hK=>?_⟩
        have HK:=Lib.hid hK
        clear hK
        simp only [layS,Act.put,zzC,zzD,zzE,Nat.zero_add,Nat.reduceAdd,e4]
        have E4:=Lib.hid e4
        clear e4
        go_simp
        exact HK.out _ _ (by simp [layS,updV,lstV,Act.put,E4.out]) hJ
       ·
        clear hd
        simp only [zzA,zzB]
        clear hl
        refine .inr ⟨rfl,fun K' hK=>?_⟩
        have HK:=Lib.hid hK
        clear hK
        simp only [layS,Act.put,zzC,zzD,zzE,Nat.zero_add,Nat.reduceAdd]
        go_simp
        exact HK.out _ _ (by simp [layS,updV,lstV,Act.put]) hJ
       ·
        clear hd
        simp only [zzA,zzB]
        clear hl
        refine .inr ⟨rfl,fun K' hK=>?_⟩
        have HK:=Lib.hid hK
        clear hK
        simp only [layS,Act.put,zzC,zzD,zzE,Nat.zero_add,Nat.reduceAdd]
        go_simp
        exact HK.out _ _ (by simp [layS,updV,lstV,Act.put]) hJ
       ·
        clear hd
        simp only [zzA,zzB]
        clear hl
        refine .inr ⟨rfl,fun K' hK=>?_⟩
        have HK:=Lib.hid hK
        clear hK
        simp only [layS,Act.put,zzC,zzD,zzE,Nat.zero_add,Nat.reduceAdd]
        go_simp
        exact HK.out _ _ (by simp [layS,updV,lstV,Act.put]) hJ
       ·
        have e7:u 7=.int .i64 z:=hd 7 (by kernel_rfl)
        have e8:u 8=.int .i64 (i:Nat):=hd 8 (by kernel_rfl)
        clear hd
        simp only [zzA,zzB]
        clear hl
        refine .inr ⟨rfl,fun K' hK=>?_⟩
        have HK:=Lib.hid hK
        clear hK
        simp only [layS,Act.put,zzC,zzD,zzE,Nat.zero_add,Nat.reduceAdd,e7,e8]
        have E7:=Lib.hid e7
        have E8:=Lib.hid e8
        clear e7 e8
        go_simp
        exact HK.out _ _ (by simp [layS,updV,lstV,Act.put,E7.out,E8.out]) hJ
       ·
        have e9:u 9=.int .i64 (z+(i:Int)):=hd 9 (by kernel_rfl)
        clear hd
        simp only [zzA,zzB]
        clear hl
        refine .inr ⟨rfl,fun K' hK=>?_⟩
        have HK:=Lib.hid hK
        clear hK
        simp only [layS,Act.put,zzC,zzD,zzE,Nat.zero_add,Nat.reduceAdd,e9]
        have E9:=Lib.hid e9
        clear e9
        go_simp
        exact HK.out _ _ (by simp [layS,updV,lstV,Act.put,E9.out]) hJ
       ·
        have e10:u 10=.int .i64 (q4:Nat):=hd 10 (by kernel_rfl)
        clear hd
        simp only [zzA,zzB]
        clear hl
        refine .inr ⟨rfl,fun K' hK=>?_⟩
        have HK:=Lib.hid hK
        clear hK
        simp only [layS,Act.put,zzC,zzD,zzE,Nat.zero_add,Nat.reduceAdd,e10]
        have E10:=Lib.hid e10
        clear e10
        go_simp
        exact HK.out _ _ (by simp [layS,updV,lstV,Act.put,E10.out]) hJ
       ·
        have e6:u 6=.slice (some ⟨g,0,none⟩) N c:=hd 6 (by kernel_rfl)
        have e11:u 11=.int .i64 (q:Nat):=hd 11 (by kernel_rfl)
        clear hd
        simp only [zzA,zzB]
        clear hl
        refine .inr ⟨rfl,fun K' hK=>?_⟩
        have HK:=Lib.hid hK
        clear hK
        simp only [layS,Act.put,zzC,zzD,zzE,Nat.zero_add,Nat.reduceAdd,e6,e11]
        have E6:=Lib.hid e6
        have E11:=Lib.hid e11
        clear e6 e11
        go_simp
        exact HK.out _ _ (by simp [layS,updV,lstV,Act.put,E6.out,E11.out]) hJ
       ·
        have e12:u 12=.pointer (some ⟨g,q,none⟩):=hd 12 (by kernel_rfl)
        clear hd
        simp only [zzA,zzB]
        clear hl
        refine .inr ⟨rfl,fun K' hK=>?_⟩
        have HK:=Lib.hid hK
        clear hK
        simp only [layS,Act.put,zzC,zzD,zzE,Nat.zero_add,Nat.reduceAdd,e12]
        have E12:=Lib.hid e12
        clear e12
        have hcl:=hJ.1.cell hqN
        go_simp
        exact HK.out _ _ (by simp [layS,updV,lstV,Act.put,E12.out]) hJ
       ·
        clear hd
        simp only [zzA,zzB]
        clear hl
        refine .inr ⟨rfl,fun K' hK=>?_⟩
        have HK:=Lib.hid hK
        clear hK
        simp only [layS,Act.put,zzC,zzD,zzE,Nat.zero_add,Nat.reduceAdd]
        go_simp
        exact HK.out _ _ (by simp [layS,updV,lstV,Act.put]) hJ
       ·
        clear hd
        simp only [zzA,zzB]
        clear hl
        refine .inr ⟨rfl,fun K' hK=>?_⟩
        have HK:=Lib.hid hK
        clear hK
        simp only [layS,Act.put,zzC,zzD,zzE,Nat.zero_add,Nat.reduceAdd]
        go_simp
        exact HK.out _ _ (by simp [layS,updV,lstV,Act.put]) hJ
       ·
        have e14:u 14=.int .i64 z:=hd 14 (by kernel_rfl)
        have e15:u 15=.int .i64 (i:Nat):=hd 15 (by kernel_rfl)
        clear hd
        simp only [zzA,zzB]
        clear hl
        refine .inr ⟨rfl,fun K' hK=>?_⟩
        have HK:=Lib.hid hK
        clear hK
        simp only [layS,Act.put,zzC,zzD,zzE,Nat.zero_add,Nat.reduceAdd,e14,e15]
        have E14:=Lib.hid e14
        have E15:=Lib.hid e15
        clear e14 e15
        go_simp
        exact HK.out _ _ (by simp [layS,updV,lstV,Act.put,E14.out,E15.out]) hJ
       ·
        have e16:u 16=.int .i64 (z+(i:Int)):=hd 16 (by kernel_rfl)
        clear hd
        simp only [zzA,zzB]
        clear hl
        refine .inr ⟨rfl,fun K' hK=>?_⟩
        have HK:=Lib.hid hK
        clear hK
        simp only [layS,Act.put,zzC,zzD,zzE,Nat.zero_add,Nat.reduceAdd,e16]
        have E16:=Lib.hid e16
        clear e16
        go_simp
        exact HK.out _ _ (by simp [layS,updV,lstV,Act.put,E16.out]) hJ
       ·
        have e17:u 17=.int .i64 (r:Nat):=hd 17 (by kernel_rfl)
        clear hd
        simp only [zzA,zzB]
        clear hl
        refine .inr ⟨rfl,fun K' hK=>?_⟩
        have HK:=Lib.hid hK
        clear hK
        simp only [layS,Act.put,zzC,zzD,zzE,Nat.zero_add,Nat.reduceAdd,e17]
        have E17:=Lib.hid e17
        clear e17
        go_simp
        exact HK.out _ _ (by simp [layS,updV,lstV,Act.put,E17.out]) hJ
       ·
        have e13:u 13=.int .u8 (F q:Nat):=hd 13 (by kernel_rfl)
        have e18:u 18=.int .u8 m:=hd 18 (by kernel_rfl)
        clear hd
        simp only [zzA,zzB]
        clear hl
        refine .inr ⟨rfl,fun K' hK=>?_⟩
        have HK:=Lib.hid hK
        clear hK
        simp only [layS,Act.put,zzC,zzD,zzE,Nat.zero_add,Nat.reduceAdd,e13,e18]
        have E13:=Lib.hid e13
        have E18:=Lib.hid e18
        clear e13 e18
        go_simp
        exact HK.out _ _ (by simp [layS,updV,lstV,Act.put,E13.out,E18.out]) hJ
       ·
        have e0:u 0=.slice (some ⟨g,0,none⟩) N c:=hd 0 (by kernel_rfl)
        have e5:u 5=.int .i64 (q:Nat):=hd 5 (by kernel_rfl)
        clear hd
        simp only [zzA,zzB]
        clear hl
        refine .inr ⟨rfl,fun K' hK=>?_⟩
        have HK:=Lib.hid hK
        clear hK
        simp only [layS,Act.put,zzC,zzD,zzE,Nat.zero_add,Nat.reduceAdd,e0,e5]
        have E0:=Lib.hid e0
        have E5:=Lib.hid e5
        clear e0 e5
        go_simp
        exact HK.out _ _ (by simp [layS,updV,lstV,Act.put,E0.out,E5.out]) hJ
      intro W hJ
      simp only [layS,lstV,Act.put,zzC,zzD,zzE,Nat.zero_add,Nat.reduceAdd,List.getD_cons_zero,List.getD_cons_succ,List.drop_succ_cons,List.drop_zero,List.drop_nil]
      have hfree:=hJ.1.free hqN
      have hcell:=hJ.1.cell hqN
      go_wp2
      go_roundw
      case rel=>exact ⟨i+1,⟨by omega,by omega⟩,by go_num,by show _=Value.bool (anyN pa i || pa i); rw [HP.out,Bool.or_true],by rw [turnN_yes HP.out,← HF.out]; exact hJ.1.put hqN (turn_at HQ.out HR.out HX.out) (turn_off HQ.out),hJ.2.setCell hgw _⟩
      case measure=>simp [intOf]; omega
    ·
     have d2:decide (32+z+(i:Int) < 8*(N:Int))=false:=decide_eq_false hin
     have HE:Hid (a+i≤8*N∧(i=16∨(i < 16∧8*N≤a+i))):=by have:=Ha.out; exact ⟨by omega,.inr ⟨h16,by omega⟩⟩
     cases hp:anyN pa i
     ·
      have HP:=Lib.hid hp
      clear hp
      have hFl:∀ j,j < N→X.turnN f a pa i j < 256:=fun j _=>X.turnN_lt (by rw [Hf.out]; exact byA_lt _) a pa _ j
      obtain ⟨B,hBd⟩:∃ B:ByteArray,⟨(X.byF (X.turnN f a pa i) N).toArray⟩=B:=⟨_,rfl⟩
      have hBs:B.size=N:=by rw [← hBd]; show (X.byF (X.turnN f a pa i) N).toArray.size=_; rw [List.size_toArray,X.byF_len]
      have hBl:B.data.toList=X.byF (X.turnN f a pa i) N:=by rw [← hBd]
      obtain ⟨fs,d,l',hrn⟩:∃ fs d l',rn_ ([]++B.data.toList)=(fs,d,l'):=⟨_,_,_,rfl⟩
      have hd:fs=[(k,p.data.toList)]∧d=0:=by
       have:=turned_no k p Hp64.out HP.out (a:=a)
       rw [← HT.out,← Hf.out,← HN.out,← hBl] at this
       rw [List.nil_append,this] at hrn
       injection hrn with h1 h2
       injection h2 with h2 h3
       exact ⟨h1.symm,h2.symm⟩
      have Hrn:=Lib.hid hrn
      have HBl:=Lib.hid hBl
      have HBd:=Lib.hid hBd
      clear hrn hBl hBd
      have hQ:=(sq_nil (Scn:=Scn) w).later HPP.out hbl
      clear hbl
      go_wp2_with fail
      refine (HPP.out.new _).mono ?_
      rintro e1 W1 ⟨p1,F1,rfl,hs1,hF1,hB1⟩
      have hQ1:=hQ.new HPP.out hB1 hs1 hF1
      have hby1:=hby.below hB1
      obtain ⟨a1,rfl⟩:=HPP.out.ptr hs1
      clear hs1 hF1 hB1 hQ hby
      go_wp2_with fail
      refine (HPP.out.new _).mono ?_
      rintro e2 W2 ⟨p2,F2,rfl,hs2,hF2,hB2⟩
      have hQ2:=hQ1.new HPP.out hB2 hs2 hF2
      have hby2:=hby1.below hB2
      obtain ⟨a2,rfl⟩:=HPP.out.ptr hs2
      clear hs2 hF2 hB2 hQ1 hby1
      go_wp2_with (refine zso rfl (fun K hK=>wp_cvs (.tmp 108) rfl rfl hby2 hFl (hK _ _ ?_)))
      simp only [Stop,Act.put,zzC,zzD,zzE]
      rw [HBd.out]
      clear hby2 hFl
      go_wp2_with fail
      refine (feed_at HPP.out hQ2 1 rfl B (by simp; omega) Hrn.out).mono ?_
      rintro e3 W3 ⟨v3,F3,c3,rfl,hQ3⟩
      clear hQ2
      go_wp2_with fail
      refine (HPP.out.bad (hQ3.scn 1 _ rfl) (by have h:=rn_bad Hrn.out; rw [List.nil_append,Array.length_toList] at h; have e:B.data.size=B.size:=rfl; simp only; omega)).mono ?_
      rintro e4 W4 ⟨rfl,hB4⟩
      have hQ4:=hQ3.later HPP.out hB4
      clear hQ3 hB4
      go_wp2_with fail
      refine (feed_at HPP.out hQ4 0 rfl (t.extract 0 cn) (by show 0+(t.extract 0 cn).size≤1000000; rw [ByteArray.size_extract]; omega) (fs:=[]) (d:=0) (l':=(t.extract 0 cn).data.toList) (by have:=HN.out; rw [List.nil_append,HT.out]; exact rn_cut k p Hp64.out cn (by omega))).mono ?_
      rintro e5 W5 ⟨v5,F5,c5,rfl,hQ5⟩
      clear hQ4
      have hwt:((cn:Nat):Int)=((t.extract 0 cn).data.toList.length:Nat):=by
       rw [Array.length_toList]
       show _=((t.extract 0 cn).size:Int)
       rw [ByteArray.size_extract]
       omega
      replace hwt:=Lib.hid hwt
      go_wp2_with fail
      refine (wait_at HPP.out hQ5 0 rfl _ hwt.out).mono ?_
      rintro e6 W6 ⟨rfl,hB6⟩
      have hQ6:=hQ5.later HPP.out hB6
      clear hQ5 hB6 hwt
      have hBB:=hQ6.below
      have hT5:=told_len (hQ6.told 0 _ rfl)
      have hT3:=hQ6.told 1 _ rfl
      clear hQ6
      obtain ⟨a5,d5,e5⟩:=hT5
      simp only at e5
      subst e5
      simp only at hT3
      obtain ⟨rfl,rfl⟩:=hd
      obtain ⟨of,d3,rfl,s1,s2⟩:=frat_one hT3
      rw [show (⟨p.data.toList.toArray⟩:ByteArray)=p from rfl] at s2
      clear hT3
      go_wp2
      go_ret
      exact ⟨rfl,hBB⟩
     ·
      have HP:=Lib.hid hp
      clear hp
      have hFl:∀ j,j < N→X.turnN f a pa i j < 256:=fun j _=>X.turnN_lt (by rw [Hf.out]; exact byA_lt _) a pa _ j
      obtain ⟨B,hBd⟩:∃ B:ByteArray,⟨(X.byF (X.turnN f a pa i) N).toArray⟩=B:=⟨_,rfl⟩
      have hBs:B.size=N:=by rw [← hBd]; show (X.byF (X.turnN f a pa i) N).toArray.size=_; rw [List.size_toArray,X.byF_len]
      have hBl:B.data.toList=X.byF (X.turnN f a pa i) N:=by rw [← hBd]
      obtain ⟨fs,d,l',hrn⟩:∃ fs d l',rn_ ([]++B.data.toList)=(fs,d,l'):=⟨_,_,_,rfl⟩
      have hd:0 < d:=by
       have:=turned_yes k p Hp64.out HP.out (by have:=HE.out; have:=Ha.out; have:=HN.out; exact (show 32+a0+i≤8*(p.size+6)∧_ by rw [← HA0.out,← HN.out]; exact HE.out))
       rw [← HT.out,← Hf.out,← HA0.out,← HN.out,← hBl] at this
       rw [List.nil_append] at hrn
       rw [hrn] at this
       exact this
      have Hrn:=Lib.hid hrn
      have HBl:=Lib.hid hBl
      have HBd:=Lib.hid hBd
      clear hrn hBl hBd
      have hQ:=(sq_nil (Scn:=Scn) w).later HPP.out hbl
      clear hbl
      go_wp2_with fail
      refine (HPP.out.new _).mono ?_
      rintro e1 W1 ⟨p1,F1,rfl,hs1,hF1,hB1⟩
      have hQ1:=hQ.new HPP.out hB1 hs1 hF1
      have hby1:=hby.below hB1
      obtain ⟨a1,rfl⟩:=HPP.out.ptr hs1
      clear hs1 hF1 hB1 hQ hby
      go_wp2_with fail
      refine (HPP.out.new _).mono ?_
      rintro e2 W2 ⟨p2,F2,rfl,hs2,hF2,hB2⟩
      have hQ2:=hQ1.new HPP.out hB2 hs2 hF2
      have hby2:=hby1.below hB2
      obtain ⟨a2,rfl⟩:=HPP.out.ptr hs2
      clear hs2 hF2 hB2 hQ1 hby1
      go_wp2_with (refine zso rfl (fun K hK=>wp_cvs (.tmp 108) rfl rfl hby2 hFl (hK _ _ ?_)))
      simp only [Stop,Act.put,zzC,zzD,zzE]
      rw [HBd.out]
      clear hby2 hFl
      go_wp2_with fail
      refine (feed_at HPP.out hQ2 1 rfl B (by simp; omega) Hrn.out).mono ?_
      rintro e3 W3 ⟨v3,F3,c3,rfl,hQ3⟩
      clear hQ2
      go_wp2_with fail
      refine (HPP.out.bad (hQ3.scn 1 _ rfl) (by have h:=rn_bad Hrn.out; rw [List.nil_append,Array.length_toList] at h; have e:B.data.size=B.size:=rfl; simp only; omega)).mono ?_
      rintro e4 W4 ⟨rfl,hB4⟩
      have hQ4:=hQ3.later HPP.out hB4
      clear hQ3 hB4
      go_wp2_with fail
      refine (feed_at HPP.out hQ4 0 rfl (t.extract 0 cn) (by show 0+(t.extract 0 cn).size≤1000000; rw [ByteArray.size_extract]; omega) (fs:=[]) (d:=0) (l':=(t.extract 0 cn).data.toList) (by have:=HN.out; rw [List.nil_append,HT.out]; exact rn_cut k p Hp64.out cn (by omega))).mono ?_
      rintro e5 W5 ⟨v5,F5,c5,rfl,hQ5⟩
      clear hQ4
      have hwt:((cn:Nat):Int)=((t.extract 0 cn).data.toList.length:Nat):=by
       rw [Array.length_toList]
       show _=((t.extract 0 cn).size:Int)
       rw [ByteArray.size_extract]
       omega
      replace hwt:=Lib.hid hwt
      go_wp2_with fail
      refine (wait_at HPP.out hQ5 0 rfl _ hwt.out).mono ?_
      rintro e6 W6 ⟨rfl,hB6⟩
      have hQ6:=hQ5.later HPP.out hB6
      clear hQ5 hB6 hwt
      have hBB:=hQ6.below
      have hT5:=told_len (hQ6.told 0 _ rfl)
      have hT3:=hQ6.told 1 _ rfl
      clear hQ6
      obtain ⟨a5,d5,e5⟩:=hT5
      simp only at e5
      subst e5
      simp only at hT3
      have hdd:decide (0 < ((0+d:Nat):Int))=true:=decide_eq_true (by omega)
      match fs,hT3 with
      | [],hT3 =>
       obtain ⟨a3,d3,e3⟩:=told_len hT3
       subst e3
       clear hT3
       go_wp2
       go_ret
       exact ⟨rfl,hBB⟩
      | (k',p') :: (x :: r),hT3 =>
       obtain ⟨of,d3,rfl⟩:∃ o d3,v3=.slice (some ⟨c3,o,none⟩) (r.length+2) d3:=by
        rcases hT3 with ⟨h,_⟩ | ⟨_,o,d3,e,h1,h2⟩
        ·
         cases h
        ·
         exact ⟨o,d3,e⟩
       clear hT3
       have e7:(((r.length+2:Nat):Int) == 1)=false:=by rw [beq_eq_false_iff_ne]; omega
       go_wp2
       go_ret
       exact ⟨rfl,hBB⟩
      | [(k',p')],hT3 =>
       obtain ⟨of,d3,rfl,s1,s2⟩:=frat_one hT3
       clear hT3
       cases e8:(((k'.toNat:Nat):Int) == ((k.toNat:Nat):Int))
       ·
        go_wp2
        go_ret
        exact ⟨rfl,hBB⟩
       ·
        go_wp2
        go_ret
        exact ⟨rfl,hBB⟩
   ·
    obtain rfl:i=16:=by omega
    have HE:Hid (a+16≤8*N∧(16=16∨(16 < 16∧8*N≤a+16))):=by have:=Ha.out; exact ⟨by omega,.inl rfl⟩
    cases hp:anyN pa 16
    ·
     have HP:=Lib.hid hp
     clear hp
     have hFl:∀ j,j < N→X.turnN f a pa 16 j < 256:=fun j _=>X.turnN_lt (by rw [Hf.out]; exact byA_lt _) a pa _ j
     obtain ⟨B,hBd⟩:∃ B:ByteArray,⟨(X.byF (X.turnN f a pa 16) N).toArray⟩=B:=⟨_,rfl⟩
     have hBs:B.size=N:=by rw [← hBd]; show (X.byF (X.turnN f a pa 16) N).toArray.size=_; rw [List.size_toArray,X.byF_len]
     have hBl:B.data.toList=X.byF (X.turnN f a pa 16) N:=by rw [← hBd]
     obtain ⟨fs,d,l',hrn⟩:∃ fs d l',rn_ ([]++B.data.toList)=(fs,d,l'):=⟨_,_,_,rfl⟩
     have hd:fs=[(k,p.data.toList)]∧d=0:=by
      have:=turned_no k p Hp64.out HP.out (a:=a)
      rw [← HT.out,← Hf.out,← HN.out,← hBl] at this
      rw [List.nil_append,this] at hrn
      injection hrn with h1 h2
      injection h2 with h2 h3
      exact ⟨h1.symm,h2.symm⟩
     have Hrn:=Lib.hid hrn
     have HBl:=Lib.hid hBl
     have HBd:=Lib.hid hBd
     clear hrn hBl hBd
     have hQ:=(sq_nil (Scn:=Scn) w).later HPP.out hbl
     clear hbl
     go_wp2_with fail
     refine (HPP.out.new _).mono ?_
     rintro e1 W1 ⟨p1,F1,rfl,hs1,hF1,hB1⟩
     have hQ1:=hQ.new HPP.out hB1 hs1 hF1
     have hby1:=hby.below hB1
     obtain ⟨a1,rfl⟩:=HPP.out.ptr hs1
     clear hs1 hF1 hB1 hQ hby
     go_wp2_with fail
     refine (HPP.out.new _).mono ?_
     rintro e2 W2 ⟨p2,F2,rfl,hs2,hF2,hB2⟩
     have hQ2:=hQ1.new HPP.out hB2 hs2 hF2
     have hby2:=hby1.below hB2
     obtain ⟨a2,rfl⟩:=HPP.out.ptr hs2
     clear hs2 hF2 hB2 hQ1 hby1
     go_wp2_with (refine zso rfl (fun K hK=>wp_cvs (.tmp 108) rfl rfl hby2 hFl (hK _ _ ?_)))
     simp only [Stop,Act.put,zzC,zzD,zzE]
     rw [HBd.out]
     clear hby2 hFl
     go_wp2_with fail
     refine (feed_at HPP.out hQ2 1 rfl B (by simp; omega) Hrn.out).mono ?_
     rintro e3 W3 ⟨v3,F3,c3,rfl,hQ3⟩
     clear hQ2
     go_wp2_with fail
     refine (HPP.out.bad (hQ3.scn 1 _ rfl) (by have h:=rn_bad Hrn.out; rw [List.nil_append,Array.length_toList] at h; have e:B.data.size=B.size:=rfl; simp only; omega)).mono ?_
     rintro e4 W4 ⟨rfl,hB4⟩
     have hQ4:=hQ3.later HPP.out hB4
     clear hQ3 hB4
     go_wp2_with fail
     refine (feed_at HPP.out hQ4 0 rfl (t.extract 0 cn) (by show 0+(t.extract 0 cn).size≤1000000; rw [ByteArray.size_extract]; omega) (fs:=[]) (d:=0) (l':=(t.extract 0 cn).data.toList) (by have:=HN.out; rw [List.nil_append,HT.out]; exact rn_cut k p Hp64.out cn (by omega))).mono ?_
     rintro e5 W5 ⟨v5,F5,c5,rfl,hQ5⟩
     clear hQ4
     have hwt:((cn:Nat):Int)=((t.extract 0 cn).data.toList.length:Nat):=by
      rw [Array.length_toList]
      show _=((t.extract 0 cn).size:Int)
      rw [ByteArray.size_extract]
      omega
     replace hwt:=Lib.hid hwt
     go_wp2_with fail
     refine (wait_at HPP.out hQ5 0 rfl _ hwt.out).mono ?_
     rintro e6 W6 ⟨rfl,hB6⟩
     have hQ6:=hQ5.later HPP.out hB6
     clear hQ5 hB6 hwt
     have hBB:=hQ6.below
     have hT5:=told_len (hQ6.told 0 _ rfl)
     have hT3:=hQ6.told 1 _ rfl
     clear hQ6
     obtain ⟨a5,d5,e5⟩:=hT5
     simp only at e5
     subst e5
     simp only at hT3
     obtain ⟨rfl,rfl⟩:=hd
     obtain ⟨of,d3,rfl,s1,s2⟩:=frat_one hT3
     rw [show (⟨p.data.toList.toArray⟩:ByteArray)=p from rfl] at s2
     clear hT3
     go_wp2
     go_ret
     exact ⟨rfl,hBB⟩
    ·
     have HP:=Lib.hid hp
     clear hp
     have hFl:∀ j,j < N→X.turnN f a pa 16 j < 256:=fun j _=>X.turnN_lt (by rw [Hf.out]; exact byA_lt _) a pa _ j
     obtain ⟨B,hBd⟩:∃ B:ByteArray,⟨(X.byF (X.turnN f a pa 16) N).toArray⟩=B:=⟨_,rfl⟩
     have hBs:B.size=N:=by rw [← hBd]; show (X.byF (X.turnN f a pa 16) N).toArray.size=_; rw [List.size_toArray,X.byF_len]
     have hBl:B.data.toList=X.byF (X.turnN f a pa 16) N:=by rw [← hBd]
     obtain ⟨fs,d,l',hrn⟩:∃ fs d l',rn_ ([]++B.data.toList)=(fs,d,l'):=⟨_,_,_,rfl⟩
     have hd:0 < d:=by
      have:=turned_yes k p Hp64.out HP.out (by have:=HE.out; have:=Ha.out; have:=HN.out; exact (show 32+a0+16≤8*(p.size+6)∧_ by rw [← HA0.out,← HN.out]; exact HE.out))
      rw [← HT.out,← Hf.out,← HA0.out,← HN.out,← hBl] at this
      rw [List.nil_append] at hrn
      rw [hrn] at this
      exact this
     have Hrn:=Lib.hid hrn
     have HBl:=Lib.hid hBl
     have HBd:=Lib.hid hBd
     clear hrn hBl hBd
     have hQ:=(sq_nil (Scn:=Scn) w).later HPP.out hbl
     clear hbl
     go_wp2_with fail
     refine (HPP.out.new _).mono ?_
     rintro e1 W1 ⟨p1,F1,rfl,hs1,hF1,hB1⟩
     have hQ1:=hQ.new HPP.out hB1 hs1 hF1
     have hby1:=hby.below hB1
     obtain ⟨a1,rfl⟩:=HPP.out.ptr hs1
     clear hs1 hF1 hB1 hQ hby
     go_wp2_with fail
     refine (HPP.out.new _).mono ?_
     rintro e2 W2 ⟨p2,F2,rfl,hs2,hF2,hB2⟩
     have hQ2:=hQ1.new HPP.out hB2 hs2 hF2
     have hby2:=hby1.below hB2
     obtain ⟨a2,rfl⟩:=HPP.out.ptr hs2
     clear hs2 hF2 hB2 hQ1 hby1
     go_wp2_with (refine zso rfl (fun K hK=>wp_cvs (.tmp 108) rfl rfl hby2 hFl (hK _ _ ?_)))
     simp only [Stop,Act.put,zzC,zzD,zzE]
     rw [HBd.out]
     clear hby2 hFl
     go_wp2_with fail
     refine (feed_at HPP.out hQ2 1 rfl B (by simp; omega) Hrn.out).mono ?_
     rintro e3 W3 ⟨v3,F3,c3,rfl,hQ3⟩
     clear hQ2
     go_wp2_with fail
     refine (HPP.out.bad (hQ3.scn 1 _ rfl) (by have h:=rn_bad Hrn.out; rw [List.nil_append,Array.length_toList] at h; have e:B.data.size=B.size:=rfl; simp only; omega)).mono ?_
     rintro e4 W4 ⟨rfl,hB4⟩
     have hQ4:=hQ3.later HPP.out hB4
     clear hQ3 hB4
     go_wp2_with fail
     refine (feed_at HPP.out hQ4 0 rfl (t.extract 0 cn) (by show 0+(t.extract 0 cn).size≤1000000; rw [ByteArray.size_extract]; omega) (fs:=[]) (d:=0) (l':=(t.extract 0 cn).data.toList) (by have:=HN.out; rw [List.nil_append,HT.out]; exact rn_cut k p Hp64.out cn (by omega))).mono ?_
     rintro e5 W5 ⟨v5,F5,c5,rfl,hQ5⟩
     clear hQ4
     have hwt:((cn:Nat):Int)=((t.extract 0 cn).data.toList.length:Nat):=by
      rw [Array.length_toList]
      show _=((t.extract 0 cn).size:Int)
      rw [ByteArray.size_extract]
      omega
     replace hwt:=Lib.hid hwt
     go_wp2_with fail
     refine (wait_at HPP.out hQ5 0 rfl _ hwt.out).mono ?_
     rintro e6 W6 ⟨rfl,hB6⟩
     have hQ6:=hQ5.later HPP.out hB6
     clear hQ5 hB6 hwt
     have hBB:=hQ6.below
     have hT5:=told_len (hQ6.told 0 _ rfl)
     have hT3:=hQ6.told 1 _ rfl
     clear hQ6
     obtain ⟨a5,d5,e5⟩:=hT5
     simp only at e5
     subst e5
     simp only at hT3
     have hdd:decide (0 < ((0+d:Nat):Int))=true:=decide_eq_true (by omega)
     match fs,hT3 with
     | [],hT3 =>
      obtain ⟨a3,d3,e3⟩:=told_len hT3
      subst e3
      clear hT3
      go_wp2
      go_ret
      exact ⟨rfl,hBB⟩
     | (k',p') :: (x :: r),hT3 =>
      obtain ⟨of,d3,rfl⟩:∃ o d3,v3=.slice (some ⟨c3,o,none⟩) (r.length+2) d3:=by
       rcases hT3 with ⟨h,_⟩ | ⟨_,o,d3,e,h1,h2⟩
       ·
        cases h
       ·
        exact ⟨o,d3,e⟩
      clear hT3
      have e7:(((r.length+2:Nat):Int) == 1)=false:=by rw [beq_eq_false_iff_ne]; omega
      go_wp2
      go_ret
      exact ⟨rfl,hBB⟩
     | [(k',p')],hT3 =>
      obtain ⟨of,d3,rfl,s1,s2⟩:=frat_one hT3
      clear hT3
      cases e8:(((k'.toNat:Nat):Int) == ((k.toNat:Nat):Int))
      ·
       go_wp2
       go_ret
       exact ⟨rfl,hBB⟩
      ·
       go_wp2
       go_ret
       exact ⟨rfl,hBB⟩

 ·
  go_wp2_with fail
  refine (HPP.out.wrapLong k p _ (by omega) hs).mono ?_
  rintro e1 W1 ⟨rfl,hC⟩
  replace hB:=hB.trans (hC.mono hB.size)
  clear hC
  go_wp2
  go_ret
  exact ⟨rfl,hB⟩
end Go.Proofs.Ytadbijfjfoeojaa
