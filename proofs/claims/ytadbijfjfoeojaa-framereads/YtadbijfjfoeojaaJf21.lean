/- Parts of the proof. -/
import Derived.Test.YtadbijfjfoeojaaJf0
import Derived.Test.YtadbijfjfoeojaaJf18
import Derived.Test.YtadbijfjfoeojaaJf19
import Derived.Test.YtadbijfjfoeojaaJf3
import Derived.WalkMore
import Derived.Deep.LoopGhost
set_option linter.unusedSimpArgs false
set_option linter.unusedVariables false
/- Package crc: the walks of More, Of, Seal, Right. No statement of the seat is proved here. -/
namespace Go.Proofs.Ytadbijfjfoeojaa
open Go Go.RowKit
theorem and_nat {x:Nat} (h:x < 65536):x &&& 32768=if x < 32768 then 0 else 32768:=by
 rw [nat_bit15]
 split <;> omega
theorem and_lo {v:Int} (h0:0≤v) (h:v < 32768):bits .and .u16 v 32768=0:=by
 obtain ⟨x,rfl⟩:=Int.eq_ofNat_of_zero_le h0
 have:=u16_and_nat x 32768 (by omega) (by decide)
 rw [and_nat (by omega),if_pos (by omega)] at this
 exact this
theorem and_hi {v:Int} (h0:¬ v < 32768) (h:v < 65536):bits .and .u16 v 32768=32768:=by
 obtain ⟨x,rfl⟩:=Int.eq_ofNat_of_zero_le (show 0≤v by omega)
 have:=u16_and_nat x 32768 (by omega) (by decide)
 rw [and_nat (by omega),if_neg (by omega)] at this
 exact this
set_option maxRecDepth 100000 in
set_option maxHeartbeats 1600000 in
theorem cmore_any (s0:Nat) (s:ByteArray) (z:Int) (w:World) (h0:s0 < 65536) (hz:z=(s0:Nat)) (hs:s.size≤4611686018427387904):Calls Try.prog 35 #[.int .u16 z,.string s] w (PVal (.int .u16 (X.csB s0 s.data.toList:Nat)) w):=by
 have HZ:=Lib.hid hz
 have hzb:0≤z∧z < 65536:=by omega
 clear hz
 go_enter Try.func35,Try.ntmps35
 go_wp2
 go_step3
 go_wp2
 go_step3
 go_wp2_with (refine zso rfl (fun K hK=>wp_cvb (.tmp 9) rfl rfl (fun g c W1 hg hc hby hB=>hK _ _ ?_)))
 simp only [Stop,Act.put,zzC,zzD,zzE]
 go_wp2
 go_loopg [0,12] s.size (fun n sv iv wx=>∃ k:Nat,∃ y:Int,k+n=s.size∧iv=.int .i64 k∧sv=.int .u16 y∧(0≤y∧y < 65536)∧Hid (y=(X.csB s0 (s.data.toList.take k):Nat))∧wx=W1)
 case atStart=>exact ⟨0,z,by omega,rfl,rfl,hzb,HZ.out,rfl⟩
 case round =>
  obtain ⟨k,y,hk,rfl,rfl,hy,HY,rfl⟩:=hrel
  cases gk with
  | zero =>
   obtain rfl:k=s.size:=by omega
   go_wp2
   rw [Exit.noGoto_ret]
   go_ret
   exact ⟨ret_int (by rw [HY.out,List.take_of_length_le (by simp)]),hB⟩
  | succ m =>
   have hlt:k < s.size:=by omega
   have hb:=byA_lt s k
   have hcell:=hby.cell hlt
   obtain ⟨u,hu⟩:∃ u:Nat,u=X.csB s0 (s.data.toList.take k) ^^^ s[k].toNat*256:=⟨_,rfl⟩
   have hul:u < 65536:=by rw [hu]; exact byte_in (X.csB_lt _ h0) s[k].toNat_lt
   obtain ⟨u',hu'⟩:∃ u':Int,u'=(u:Nat):=⟨_,rfl⟩
   have HU:=Lib.hid hu
   have HU':=Lib.hid hu'
   clear hu hu'
   have hx:bits .xor .u16 y ((byA s k:Int)*256)=u':=by
    rw [HY.out,HU'.out,HU.out,byA_eq hlt]
    exact u16_xor_nat _ (s[k].toNat*256) (X.csB_lt (s.data.toList.take k) h0) (by have:=s[k].toNat_lt; omega)
   go_wp2
   clear hx
   go_loopg [0,7] 8 (fun n sv iv wx=>∃ j:Nat,∃ v:Int,j+n=8∧iv=.int .i64 j∧sv=.int .u16 v∧Hid (v=(X.cbn j u:Nat))∧wx=wr)
   case atStart=>exact ⟨0,u',by omega,rfl,rfl,HU',rfl⟩
   case round =>
    obtain ⟨j,v,hj,rfl,rfl,HV,rfl⟩:=hrel
    have hv:0≤v∧v < 65536:=by have:=HV.out; have:=cbn_lt hul j; omega
    cases gk with
    | zero =>
     obtain rfl:j=8:=by omega
     go_wp2
     go_roundg m
     case measure=>omega
     case rel=>exact ⟨k+1,v,by omega,by go_num,rfl,hv,by show _=_; rw [HV.out,HU.out,csB_take s0 hlt],rfl⟩
    | succ q =>
     have hn:Hid (X.cbn (j+1) u=X.cb (X.cbn j u)):=cbn_snoc j u
     by_cases hl:v < 32768
     ·
      have ha:bits .and .u16 v 32768=0:=and_lo hv.1 hl
      go_wp2
      go_roundg q
      case measure=>omega
      case rel=>exact ⟨j+1,v*2,by omega,by go_num,rfl,by show _=_; rw [hn.out,X.cb_small (by have:=HV.out; omega)]; have:=HV.out; omega,rfl⟩
     ·
      have ha:bits .and .u16 v 32768=32768:=and_hi hl hv.2
      obtain ⟨t,ht⟩:∃ t:Int,t=v*2 - 65536:=⟨_,rfl⟩
      have hw:IntKind.u16.wrap (v*2)=t:=by rw [IntKind.wrap_u16]; omega
      obtain ⟨v2,hv2⟩:∃ v2:Int,v2=(X.cbn (j+1) u:Nat):=⟨_,rfl⟩
      have hx2:bits .xor .u16 t 4129=v2:=by
       have e:t=((X.cbn j u*2 - 65536:Nat):Int):=by have:=HV.out; omega
       rw [hv2,hn.out,cb_hi (cbn_lt hul j) (by have:=HV.out; omega),e]
       exact u16_xor_nat _ 4129 (by have:=cbn_lt hul j; omega) (by decide)
      have HV2:=Lib.hid hv2
      clear ht hv2
      go_wp2
      go_roundg q
      case measure=>omega
      case rel=>exact ⟨j+1,v2,by omega,by go_num,rfl,HV2,rfl⟩
theorem cof_any (s:ByteArray) (w:World) (hs:s.size≤4611686018427387904):Calls Try.prog 32 #[.string s] w (PVal (.int .u16 (X.csB 65535 s.data.toList:Nat)) w):=by
 have hc:=fun W=>cmore_any 65535 s 65535 W (by decide) rfl hs
 have HC:=Lib.hid hc
 clear hc
 generalize X.csB 65535 s.data.toList=c at *
 go_enter Try.func32,Try.ntmps32
 go_wp2_with fail
 refine (HC.out _).mono ?_
 rintro e w' ⟨rfl,hB⟩
 go_wp2
 go_ret
 exact ⟨rfl,hB⟩
/-- The two bytes behind a text. -/
def tlS (n:Nat):ByteArray:=⟨#[UInt8.ofNat (n / 256),UInt8.ofNat (n % 256)]⟩
set_option maxHeartbeats 1600000 in
theorem ctail_w (s t:ByteArray) (n:Int) (w:World) (hs:s.size≤4611686018427387904) (h:0≤n∧n < 65536) (hof:∀ W,Calls Try.prog 32 #[.string s] W (PVal (.int .u16 n) W))
  (hcv:∀ W:World,(convert 42 9 (.slice (some ⟨W.heap.size,0,none⟩) 2 2)).run Try.prog (W.alloc (.cells #[.int .u8 (n / 256),.int .u8 (n % 256)] 5))=.ok (.string t) (W.alloc (.cells #[.int .u8 (n / 256),.int .u8 (n % 256)] 5))) :
  Calls Try.prog 23 #[.string s] w (PVal (.string t) w):=by
 have HC:=Lib.hid hof
 have HV:=Lib.hid hcv
 have hw:IntKind.u8.wrap n=n % 256:=IntKind.wrap_u8' n
 clear hof hcv
 go_enter Try.func23,Try.ntmps23
 go_wp2_with fail
 refine (HC.out _).mono ?_
 rintro e W ⟨rfl,hB⟩
 have hcv:=HV.out W
 go_wp2
 go_ret
 exact ⟨rfl,hB.alloc hB.size _⟩
theorem ctail_any (s:ByteArray) (w:World) (hs:s.size≤4611686018427387904):Calls Try.prog 23 #[.string s] w (PVal (.string (tlS (X.csB 65535 s.data.toList))) w):=by
 have hl:=X.csB_lt s.data.toList (show 65535 < 65536 by decide)
 obtain ⟨e1,e2⟩:=X.twoB_at hl
 exact ctail_w s _ _ w hs (by omega) (fun W=>cof_any s W hs) (fun W=>str_two W _ _ _ _ (by rw [e1]; omega) (by rw [e2]; omega))
set_option maxHeartbeats 1600000 in
theorem cseal_w (s t r:ByteArray) (w:World) (hs:s.size≤4611686018427387904) (ht:t.size=2) (htl:∀ W,Calls Try.prog 23 #[.string s] W (PVal (.string t) W)) (hr:s++t=r) :
  Calls Try.prog 18 #[.string s] w (PVal (.string r) w):=by
 have HC:=Lib.hid htl
 clear htl
 go_enter Try.func18,Try.ntmps18
 go_wp2_with fail
 refine (HC.out _).mono ?_
 rintro e W ⟨rfl,hB⟩
 go_wp2
 go_ret
 exact ⟨rfl,hB⟩
theorem cseal_any (s:ByteArray) (w:World) (hs:s.size≤4611686018427387904):Calls Try.prog 18 #[.string s] w (PVal (.string (sealS s)) w) :=
 cseal_w s _ _ w hs rfl (fun W=>ctail_any s W hs) (seal_eq s)
theorem tail_right {s:ByteArray} (h:2≤s.size):((s.extract (s.size - 2) s.size).toList == (tlS (X.csB 65535 (s.extract 0 (s.size - 2)).data.toList)).toList)=rightS s:=by
 have hl:s.data.toList.length=s.size:=rfl
 unfold rightS X.rightB X.sealB
 rw [hl,decide_eq_true h,Bool.true_and,Bool.eq_iff_iff,beq_iff_eq,decide_eq_true_iff,extract_list,Lib.toList_data,Lib.toList_data]
 have e:(s.extract (s.size - 2) s.size).data.toList=s.data.toList.drop (s.size - 2):=by
  rw [ByteArray.data_extract,Array.toList_extract]
  simp only [List.extract_eq_take_drop]
  exact List.take_of_length_le (by simp)
 rw [e]
 show _=X.twoB _↔_
 constructor
 ·
  intro k
  rw [← k,List.take_append_drop]
 ·
  intro k
  have:=(List.take_append_drop (s.size - 2) s.data.toList).trans k.symm
  exact List.append_cancel_left this
set_option maxHeartbeats 1600000 in
theorem cright_short (s:ByteArray) (w:World) (hs:s.size≤4611686018427387904) (h:s.size < 2):Calls Try.prog 29 #[.string s] w (PVal (.bool false) w):=by
 go_enter Try.func29,Try.ntmps29
 go_wp2
 refine wp_region_vals 13 [some 7,some 8,some 9,some 10,some 11,some 12,some 13,some 14,some 15,some 16,some 17,some 18,some 2] (lstV [.int .i64 ((s.size:Int) - 2),.bool false,.bool false,undef,undef,undef,undef,undef,undef,undef,undef,.bool false,.bool false]) (fun W=>Below w.heap.size w W) (by kernel_rfl) (by kernel_rfl) (by decide) ((Below.refl _ _).drew) ?_ ?_
 ·
  intro i hl hi u W hJ hd
  obtain rfl | rfl | rfl | rfl | rfl | rfl | rfl | rfl | rfl | rfl | rfl | rfl | rfl:i=0∨i=1∨i=2∨i=3∨i=4∨i=5∨i=6∨i=7∨i=8∨i=9∨i=10∨i=11∨i=12:=by omega
  ·
   clear hd
   simp only [zzA,zzB]
   clear hl
   refine .inr ⟨rfl,fun K' hK=>?_⟩
   have HK:=Lib.hid hK
   clear hK
   simp only [layS,Act.put,zzC,zzD,zzE,Nat.zero_add,Nat.reduceAdd]
   go_simp
   exact HK.out _ _ (by simp [layS,updV,lstV,Act.put]) hJ
  ·
   have e0:u 0=.int .i64 ((s.size:Int) - 2):=hd 0 (by kernel_rfl)
   clear hd
   simp only [zzA,zzB]
   clear hl
   refine .inr ⟨rfl,fun K' hK=>?_⟩
   have HK:=Lib.hid hK
   clear hK
   simp only [layS,Act.put,zzC,zzD,zzE,Nat.zero_add,Nat.reduceAdd,e0]
   have E0:=Lib.hid e0
   clear e0
   go_simp
   exact HK.out _ _ (by simp [layS,updV,lstV,Act.put,E0.out]; omega) hJ
  ·
   have e1:u 1=.bool false:=hd 1 (by kernel_rfl)
   clear hd
   simp only [zzA,zzB]
   clear hl
   refine .inr ⟨rfl,fun K' hK=>?_⟩
   have HK:=Lib.hid hK
   clear hK
   simp only [layS,Act.put,zzC,zzD,zzE,Nat.zero_add,Nat.reduceAdd,e1]
   have E1:=Lib.hid e1
   clear e1
   go_simp
   exact HK.out _ _ (by simp [layS,updV,lstV,Act.put,E1.out]) hJ
  ·
   have e2:u 2=.bool false:=hd 2 (by kernel_rfl)
   clear hd
   simp only [zzA,zzB]
   clear hl
   refine .inl ⟨?_,?_⟩
   ·
    simp [Region.wanted,yielded,layS,Act.put,e2]
   ·
    simp [layS,updV,lstV,Act.put]
  ·
   have e2:u 2=.bool false:=hd 2 (by kernel_rfl)
   clear hd
   simp only [zzA,zzB]
   clear hl
   refine .inl ⟨?_,?_⟩
   ·
    simp [Region.wanted,yielded,layS,Act.put,e2]
   ·
    simp [layS,updV,lstV,Act.put]
  ·
   have e2:u 2=.bool false:=hd 2 (by kernel_rfl)
   have e3:u 3=undef:=hd 3 (by kernel_rfl)
   have e4:u 4=undef:=hd 4 (by kernel_rfl)
   clear hd
   simp only [zzA,zzB]
   clear hl
   refine .inl ⟨?_,?_⟩
   ·
    simp [Region.wanted,yielded,layS,Act.put,e2,e3,e4]
   ·
    simp [layS,updV,lstV,Act.put]
  ·
   have e2:u 2=.bool false:=hd 2 (by kernel_rfl)
   clear hd
   simp only [zzA,zzB]
   clear hl
   refine .inl ⟨?_,?_⟩
   ·
    simp [Region.wanted,yielded,layS,Act.put,e2]
   ·
    simp [layS,updV,lstV,Act.put]
  ·
   have e2:u 2=.bool false:=hd 2 (by kernel_rfl)
   clear hd
   simp only [zzA,zzB]
   clear hl
   refine .inl ⟨?_,?_⟩
   ·
    simp [Region.wanted,yielded,layS,Act.put,e2]
   ·
    simp [layS,updV,lstV,Act.put]
  ·
   have e2:u 2=.bool false:=hd 2 (by kernel_rfl)
   have e6:u 6=undef:=hd 6 (by kernel_rfl)
   have e7:u 7=undef:=hd 7 (by kernel_rfl)
   clear hd
   simp only [zzA,zzB]
   clear hl
   refine .inl ⟨?_,?_⟩
   ·
    simp [Region.wanted,yielded,layS,Act.put,e2,e6,e7]
   ·
    simp [layS,updV,lstV,Act.put]
  ·
   have e2:u 2=.bool false:=hd 2 (by kernel_rfl)
   have e8:u 8=undef:=hd 8 (by kernel_rfl)
   clear hd
   simp only [zzA,zzB]
   clear hl
   refine .inl ⟨?_,?_⟩
   ·
    simp [Region.wanted,yielded,layS,Act.put,e2,e8]
   ·
    simp [layS,updV,lstV,Act.put]
  ·
   have e2:u 2=.bool false:=hd 2 (by kernel_rfl)
   have e5:u 5=undef:=hd 5 (by kernel_rfl)
   have e9:u 9=undef:=hd 9 (by kernel_rfl)
   clear hd
   simp only [zzA,zzB]
   clear hl
   refine .inl ⟨?_,?_⟩
   ·
    simp [Region.wanted,yielded,layS,Act.put,e2,e5,e9]
   ·
    simp [layS,updV,lstV,Act.put]
  ·
   have e2:u 2=.bool false:=hd 2 (by kernel_rfl)
   have e10:u 10=undef:=hd 10 (by kernel_rfl)
   clear hd
   simp only [zzA,zzB]
   clear hl
   refine .inr ⟨rfl,fun K' hK=>?_⟩
   have HK:=Lib.hid hK
   clear hK
   simp only [layS,Act.put,zzC,zzD,zzE,Nat.zero_add,Nat.reduceAdd,e2,e10]
   have E2:=Lib.hid e2
   have E10:=Lib.hid e10
   clear e2 e10
   go_simp
   exact HK.out _ _ (by simp [layS,updV,lstV,Act.put,E2.out,E10.out]) hJ
  ·
   have e11:u 11=.bool false:=hd 11 (by kernel_rfl)
   clear hd
   simp only [zzA,zzB]
   clear hl
   refine .inr ⟨rfl,fun K' hK=>?_⟩
   have HK:=Lib.hid hK
   clear hK
   simp only [layS,Act.put,zzC,zzD,zzE,Nat.zero_add,Nat.reduceAdd,e11]
   have E11:=Lib.hid e11
   clear e11
   go_simp
   exact HK.out _ _ (by simp [layS,updV,lstV,Act.put,E11.out]) hJ
 intro W hJ
 simp only [layS,lstV,Act.put,zzC,zzD,zzE,Nat.zero_add,Nat.reduceAdd,List.getD_cons_zero,List.getD_cons_succ,List.drop_succ_cons,List.drop_zero,List.drop_nil]
 go_wp2
 go_ret
 exact ⟨rfl,hJ⟩
set_option maxHeartbeats 1600000 in
theorem cright_long (s t:ByteArray) (b:Bool) (w:World) (hs:s.size≤4611686018427387904) (h:2≤s.size) (htl:∀ W,Calls Try.prog 23 #[.string (s.extract 0 (s.size - 2))] W (PVal (.string t) W)) (hb:((s.extract (s.size - 2) s.size).toList == t.toList)=b):Calls Try.prog 29 #[.string s] w (PVal (.bool b) w):=by
 have HC:=Lib.hid htl
 clear htl
 go_enter Try.func29,Try.ntmps29
 go_wp2
 refine wp_region_vals 13 [some 7,some 8,some 9,some 10,some 11,some 12,some 13,some 14,some 15,some 16,some 17,some 18,some 2] (lstV [.int .i64 ((s.size:Int) - 2),.bool true,.bool true,.string s,.int .i64 ((s.size:Int) - 2),.string (s.extract (s.size - 2) s.size),.string s,.int .i64 ((s.size:Int) - 2),.string (s.extract 0 (s.size - 2)),.string t,.bool b,.bool b,.bool b]) (fun W=>Below w.heap.size w W) (by kernel_rfl) (by kernel_rfl) (by decide) ((Below.refl _ _).drew) ?_ ?_
 ·
  intro i hl hi u W hJ hd
  obtain rfl | rfl | rfl | rfl | rfl | rfl | rfl | rfl | rfl | rfl | rfl | rfl | rfl:i=0∨i=1∨i=2∨i=3∨i=4∨i=5∨i=6∨i=7∨i=8∨i=9∨i=10∨i=11∨i=12:=by omega
  ·
   clear hd
   simp only [zzA,zzB]
   clear hl
   refine .inr ⟨rfl,fun K' hK=>?_⟩
   have HK:=Lib.hid hK
   clear hK
   simp only [layS,Act.put,zzC,zzD,zzE,Nat.zero_add,Nat.reduceAdd]
   go_simp
   exact HK.out _ _ (by simp [layS,updV,lstV,Act.put]) hJ
  ·
   have e0:u 0=.int .i64 ((s.size:Int) - 2):=hd 0 (by kernel_rfl)
   clear hd
   simp only [zzA,zzB]
   clear hl
   refine .inr ⟨rfl,fun K' hK=>?_⟩
   have HK:=Lib.hid hK
   clear hK
   simp only [layS,Act.put,zzC,zzD,zzE,Nat.zero_add,Nat.reduceAdd,e0]
   have E0:=Lib.hid e0
   clear e0
   go_simp
   exact HK.out _ _ (by simp [layS,updV,lstV,Act.put,E0.out]; omega) hJ
  ·
   have e1:u 1=.bool true:=hd 1 (by kernel_rfl)
   clear hd
   simp only [zzA,zzB]
   clear hl
   refine .inr ⟨rfl,fun K' hK=>?_⟩
   have HK:=Lib.hid hK
   clear hK
   simp only [layS,Act.put,zzC,zzD,zzE,Nat.zero_add,Nat.reduceAdd,e1]
   have E1:=Lib.hid e1
   clear e1
   go_simp
   exact HK.out _ _ (by simp [layS,updV,lstV,Act.put,E1.out]) hJ
  ·
   have e2:u 2=.bool true:=hd 2 (by kernel_rfl)
   clear hd
   simp only [zzA,zzB]
   clear hl
   refine .inr ⟨?_,fun K' hK=>?_⟩
   ·
    simp [Region.wanted,yielded,layS,Act.put,e2]
   have HK:=Lib.hid hK
   clear hK
   simp only [layS,Act.put,zzC,zzD,zzE,Nat.zero_add,Nat.reduceAdd,e2]
   have E2:=Lib.hid e2
   clear e2
   go_simp
   exact HK.out _ _ (by simp [layS,updV,lstV,Act.put,E2.out]) hJ
  ·
   have e2:u 2=.bool true:=hd 2 (by kernel_rfl)
   clear hd
   simp only [zzA,zzB]
   clear hl
   refine .inr ⟨?_,fun K' hK=>?_⟩
   ·
    simp [Region.wanted,yielded,layS,Act.put,e2]
   have HK:=Lib.hid hK
   clear hK
   simp only [layS,Act.put,zzC,zzD,zzE,Nat.zero_add,Nat.reduceAdd,e2]
   have E2:=Lib.hid e2
   clear e2
   go_simp
   exact HK.out _ _ (by simp [layS,updV,lstV,Act.put,E2.out]) hJ
  ·
   have e2:u 2=.bool true:=hd 2 (by kernel_rfl)
   have e3:u 3=.string s:=hd 3 (by kernel_rfl)
   have e4:u 4=.int .i64 ((s.size:Int) - 2):=hd 4 (by kernel_rfl)
   clear hd
   simp only [zzA,zzB]
   clear hl
   refine .inr ⟨?_,fun K' hK=>?_⟩
   ·
    simp [Region.wanted,yielded,layS,Act.put,e2,e3,e4]
   have HK:=Lib.hid hK
   clear hK
   simp only [layS,Act.put,zzC,zzD,zzE,Nat.zero_add,Nat.reduceAdd,e2,e3,e4]
   have E2:=Lib.hid e2
   have E3:=Lib.hid e3
   have E4:=Lib.hid e4
   clear e2 e3 e4
   have hle:(s.size - 2)≤s.size:=by omega
   have hz:((s.size:Int) - 2).toNat=s.size - 2:=by omega
   go_simp
   rw [if_pos (by omega)]
   exact HK.out _ _ (by simp [layS,updV,lstV,Act.put,E2.out,E3.out,E4.out]) hJ
  ·
   have e2:u 2=.bool true:=hd 2 (by kernel_rfl)
   clear hd
   simp only [zzA,zzB]
   clear hl
   refine .inr ⟨?_,fun K' hK=>?_⟩
   ·
    simp [Region.wanted,yielded,layS,Act.put,e2]
   have HK:=Lib.hid hK
   clear hK
   simp only [layS,Act.put,zzC,zzD,zzE,Nat.zero_add,Nat.reduceAdd,e2]
   have E2:=Lib.hid e2
   clear e2
   go_simp
   exact HK.out _ _ (by simp [layS,updV,lstV,Act.put,E2.out]) hJ
  ·
   have e2:u 2=.bool true:=hd 2 (by kernel_rfl)
   clear hd
   simp only [zzA,zzB]
   clear hl
   refine .inr ⟨?_,fun K' hK=>?_⟩
   ·
    simp [Region.wanted,yielded,layS,Act.put,e2]
   have HK:=Lib.hid hK
   clear hK
   simp only [layS,Act.put,zzC,zzD,zzE,Nat.zero_add,Nat.reduceAdd,e2]
   have E2:=Lib.hid e2
   clear e2
   go_simp
   exact HK.out _ _ (by simp [layS,updV,lstV,Act.put,E2.out]) hJ
  ·
   have e2:u 2=.bool true:=hd 2 (by kernel_rfl)
   have e6:u 6=.string s:=hd 6 (by kernel_rfl)
   have e7:u 7=.int .i64 ((s.size:Int) - 2):=hd 7 (by kernel_rfl)
   clear hd
   simp only [zzA,zzB]
   clear hl
   refine .inr ⟨?_,fun K' hK=>?_⟩
   ·
    simp [Region.wanted,yielded,layS,Act.put,e2,e6,e7]
   have HK:=Lib.hid hK
   clear hK
   simp only [layS,Act.put,zzC,zzD,zzE,Nat.zero_add,Nat.reduceAdd,e2,e6,e7]
   have E2:=Lib.hid e2
   have E6:=Lib.hid e6
   have E7:=Lib.hid e7
   clear e2 e6 e7
   have hle:(s.size - 2)≤s.size:=by omega
   have hz:((s.size:Int) - 2).toNat=s.size - 2:=by omega
   go_simp
   rw [if_pos (by omega)]
   exact HK.out _ _ (by simp [layS,updV,lstV,Act.put,E2.out,E6.out,E7.out]) hJ
  ·
   have e2:u 2=.bool true:=hd 2 (by kernel_rfl)
   have e8:u 8=.string (s.extract 0 (s.size - 2)):=hd 8 (by kernel_rfl)
   clear hd
   simp only [zzA,zzB]
   clear hl
   refine .inr ⟨?_,fun K' hK=>?_⟩
   ·
    simp [Region.wanted,yielded,layS,Act.put,e2,e8]
   have HK:=Lib.hid hK
   clear hK
   simp only [layS,Act.put,zzC,zzD,zzE,Nat.zero_add,Nat.reduceAdd,e2,e8]
   have E2:=Lib.hid e2
   have E8:=Lib.hid e8
   clear e2 e8
   go_simp
   refine (HC.out _).mono ?_
   rintro e W' ⟨rfl,hB⟩
   exact HK.out _ _ (by simp [layS,updV,lstV,Act.put,E2.out,E8.out]) (hJ.trans (hB.mono hJ.size))
  ·
   have e2:u 2=.bool true:=hd 2 (by kernel_rfl)
   have e5:u 5=.string (s.extract (s.size - 2) s.size):=hd 5 (by kernel_rfl)
   have e9:u 9=.string t:=hd 9 (by kernel_rfl)
   clear hd
   simp only [zzA,zzB]
   clear hl
   refine .inr ⟨?_,fun K' hK=>?_⟩
   ·
    simp [Region.wanted,yielded,layS,Act.put,e2,e5,e9]
   have HK:=Lib.hid hK
   clear hK
   simp only [layS,Act.put,zzC,zzD,zzE,Nat.zero_add,Nat.reduceAdd,e2,e5,e9]
   have E2:=Lib.hid e2
   have E5:=Lib.hid e5
   have E9:=Lib.hid e9
   clear e2 e5 e9
   go_simp
   exact HK.out _ _ (by simp [layS,updV,lstV,Act.put,E2.out,E5.out,E9.out]) hJ
  ·
   have e2:u 2=.bool true:=hd 2 (by kernel_rfl)
   have e10:u 10=.bool b:=hd 10 (by kernel_rfl)
   clear hd
   simp only [zzA,zzB]
   clear hl
   refine .inr ⟨rfl,fun K' hK=>?_⟩
   have HK:=Lib.hid hK
   clear hK
   simp only [layS,Act.put,zzC,zzD,zzE,Nat.zero_add,Nat.reduceAdd,e2,e10]
   have E2:=Lib.hid e2
   have E10:=Lib.hid e10
   clear e2 e10
   go_simp
   exact HK.out _ _ (by simp [layS,updV,lstV,Act.put,E2.out,E10.out]) hJ
  ·
   have e11:u 11=.bool b:=hd 11 (by kernel_rfl)
   clear hd
   simp only [zzA,zzB]
   clear hl
   refine .inr ⟨rfl,fun K' hK=>?_⟩
   have HK:=Lib.hid hK
   clear hK
   simp only [layS,Act.put,zzC,zzD,zzE,Nat.zero_add,Nat.reduceAdd,e11]
   have E11:=Lib.hid e11
   clear e11
   go_simp
   exact HK.out _ _ (by simp [layS,updV,lstV,Act.put,E11.out]) hJ
 intro W hJ
 simp only [layS,lstV,Act.put,zzC,zzD,zzE,Nat.zero_add,Nat.reduceAdd,List.getD_cons_zero,List.getD_cons_succ,List.drop_succ_cons,List.drop_zero,List.drop_nil]
 go_wp2
 go_ret
 exact ⟨rfl,hJ⟩
theorem cright_any (s:ByteArray) (w:World) (hs:s.size≤4611686018427387900):Calls Try.prog 29 #[.string s] w (PVal (.bool (rightS s)) w):=by
 by_cases h:s.size < 2
 ·
  rw [right_short h]
  exact cright_short s w (by omega) h
 ·
  exact cright_long s _ _ w (by omega) (by omega) (fun W=>ctail_any _ W (by simp; omega)) (tail_right (by omega))
/-- A scan in memory: in block a, its count as an int64. -/
def ScnA (W:World) (p:Value) (l:List UInt8) (b:Nat) (F:Nat→Prop):Prop :=
 ∃ a,p=.pointer (some ⟨a,0,none⟩)∧F=(fun k=>k=a)∧Cl W (a,#[.string ⟨l.toArray⟩,.int .i64 (wrap64 (b:Nat))],47)
theorem scn_cell {W:World} {a:Nat} {x y:Value} {T:TypeId} (h:Cl W (a,#[x,y],T)):W.cell? ⟨a,0,none⟩=some x∧W.cell? ⟨a,1,none⟩=some y:=by
 have h':W.heap[a]?=some (.cells #[x,y] T (0,0)):=h
 constructor <;> (unfold World.cell?; simp only [h']; rfl)
theorem scn_lt {W:World} {p:Value} {l:List UInt8} {b:Nat} {F:Nat→Prop} (h:ScnA W p l b F):∀ k,F k→k < W.heap.size:=by
 obtain ⟨a,rfl,rfl,h⟩:=h
 rintro k rfl
 exact (Array.getElem?_eq_some_iff.1 h).1
theorem scn_keep {W W':World} {p:Value} {l:List UInt8} {b:Nat} {F:Nat→Prop} (h:ScnA W p l b F) (hk:∀ k,F k→W'.heap[k]?=W.heap[k]?):ScnA W' p l b F:=by
 obtain ⟨a,rfl,rfl,h⟩:=h
 exact ⟨a,rfl,rfl,(hk a rfl).trans h⟩
theorem run_b47 (W:World):(Instr.build 47 #[]).run Try.prog W=.ok (.agg #[.string ⟨#[]⟩,.int .i64 0]) W:=by kernel_rfl
attribute [local go_sem ↓] run_b47
set_option maxHeartbeats 1600000 in
theorem fnew_any (W:World):Calls Try.prog 12 #[] W fun e W'=>∃ p F,e=.returned p∧ScnA W' p [] 0 F∧(∀ k,F k→W.heap.size≤k)∧Below W.heap.size W W':=by
 go_enter Try.func12,Try.ntmps12
 go_wp2
 go_ret
 have e:wrap64 ((0:Nat):Int)=0:=by unfold wrap64; omega
 refine ⟨_,_,rfl,⟨W.heap.size,rfl,rfl,?_⟩,fun k hk=>Nat.le_of_eq hk.symm,(Below.refl _ _).alloc (Nat.le_refl _) _⟩
 rw [e]
 exact heap_new W _
set_option maxHeartbeats 1600000 in
theorem fbad_any {W:World} {p:Value} {l:List UInt8} {b:Nat} {F:Nat→Prop} (h:ScnA W p l b F) (hb:b≤1000000000):Calls Try.prog 15 #[p] W (PVal (.int .i64 (b:Nat)) W):=by
 obtain ⟨a,rfl,rfl,h⟩:=h
 have hw:wrap64 ((b:Nat):Int)=(b:Nat):=by unfold wrap64; omega
 rw [hw] at h
 have hc:=(scn_cell h).2
 clear h hw
 go_enter Try.func15,Try.ntmps15
 go_wp2
 go_ret
 exact ⟨rfl,Below.refl _ _⟩
set_option maxHeartbeats 1600000 in
theorem fwaiting_any {W:World} {p:Value} {l:List UInt8} {b:Nat} {F:Nat→Prop} (h:ScnA W p l b F):Calls Try.prog 16 #[p] W (PVal (.int .i64 (l.length:Nat)) W):=by
 obtain ⟨a,rfl,rfl,h⟩:=h
 have hc:=(scn_cell h).1
 have hl:(⟨l.toArray⟩:ByteArray).size=l.length:=by show l.toArray.size=_; simp
 generalize (⟨l.toArray⟩:ByteArray)=s at *
 clear h
 go_enter Try.func16,Try.ntmps16
 go_wp2
 go_ret
 exact ⟨rfl,Below.refl _ _⟩
set_option maxHeartbeats 1600000 in
theorem fwrap_long (k:UInt8) (s:ByteArray) (w:World) (h:64 < s.size) (hs:s.size≤140737488355328):Calls Try.prog 10 #[.int .u8 (k.toNat:Nat),.string s] w (PVal (.tuple #[.string ⟨#[]⟩,.int .i64 2]) w):=by
 have d:decide (64 < (s.size:Int))=true:=decide_eq_true (by omega)
 go_enter Try.func10,Try.ntmps10
 go_wp2
 exact bodyPost_ret (v:=.tuple #[.string ⟨#[]⟩,.int .i64 2]) (by simp [results,Try.results10,go_sem]) rfl ⟨rfl,Below.refl _ _⟩
set_option maxRecDepth 100000 in
set_option maxHeartbeats 3200000 in
theorem fwrap_w (k:Int) (s m r t:ByteArray) (w:World) (h:s.size≤64) (hm:(⟨#[UInt8.ofNat k.toNat,UInt8.ofNat s.size]⟩:ByteArray)++s=m) (hr:r.size≤100) (ht:(⟨#[165,90]⟩:ByteArray)++r=t)
  (h1:∀ W:World,(convert 42 9 (.slice (some ⟨W.heap.size,0,none⟩) 2 2)).run Try.prog (W.alloc (.cells #[.int .u8 165,.int .u8 90] 5))=.ok (.string ⟨#[165,90]⟩) (W.alloc (.cells #[.int .u8 165,.int .u8 90] 5)))
  (h2:∀ W:World,(convert 42 9 (.slice (some ⟨W.heap.size,0,none⟩) 2 2)).run Try.prog (W.alloc (.cells #[.int .u8 k,.int .u8 (s.size:Nat)] 5))=.ok (.string ⟨#[UInt8.ofNat k.toNat,UInt8.ofNat s.size]⟩) (W.alloc (.cells #[.int .u8 k,.int .u8 (s.size:Nat)] 5)))
  (hS:∀ W,Calls Try.prog 18 #[.string m] W (PVal (.string r) W)) :
  Calls Try.prog 10 #[.int .u8 k,.string s] w (PVal (.tuple #[.string t,.int .i64 0]) w):=by
 have d:decide (64 < (s.size:Int))=false:=decide_eq_false (by omega)
 have HS:=Lib.hid hS
 have HT:=Lib.hid ht
 have hcv1:=h1 w
 have hcv2:=h2 (w.alloc (.cells #[.int .u8 165,.int .u8 90] 5))
 rw [show (w.alloc (.cells #[.int .u8 165,.int .u8 90] 5)).heap.size=w.heap.size+1 by simp] at hcv2
 have hz2:(⟨#[UInt8.ofNat k.toNat,UInt8.ofNat s.size]⟩:ByteArray).size=2:=rfl
 have hz1:(⟨#[165,90]⟩:ByteArray).size=2:=rfl
 generalize (⟨#[UInt8.ofNat k.toNat,UInt8.ofNat s.size]⟩:ByteArray)=q at *
 generalize (⟨#[165,90]⟩:ByteArray)=z at *
 clear hS h1 h2 ht
 have hB0:Below w.heap.size w ((w.alloc (.cells #[.int .u8 165,.int .u8 90] 5)).alloc (.cells #[.int .u8 k,.int .u8 (s.size:Nat)] 5)):=((Below.refl _ _).alloc (Nat.le_refl _) _).alloc (new_below w _).size _
 go_enter Try.func10,Try.ntmps10
 go_wp2_with fail
 refine (HS.out _).mono ?_
 rintro e W ⟨rfl,hB⟩
 have hzz:¬ 9223372036854775807 < z.size+r.size:=by omega
 have ht:=HT.out
 go_wp2
 exact bodyPost_ret (v:=.tuple #[.string t,.int .i64 0]) (by simp [results,Try.results10,go_sem]) rfl ⟨rfl,hB0.trans (hB.mono hB0.size)⟩
theorem fwrap_any (k:UInt8) (s:ByteArray) (w:World) (h:s.size≤64):Calls Try.prog 10 #[.int .u8 (k.toNat:Nat),.string s] w (PVal (.tuple #[.string (wrapS k s),.int .i64 0]) w):=by
 have e:UInt8.ofNat ((k.toNat:Nat):Int).toNat=k:=by simp
 refine fwrap_w _ s (headB k s) (sealS (headB k s)) _ w h (by rw [e]; rfl) (by rw [seal_size,head_size]; omega) rfl (fun W=>str_two W _ _ 165 90 rfl rfl) (fun W=>?_) (fun W=>cseal_any (headB k s) W (by rw [head_size]; omega))
 rw [e]
 exact str_two W _ _ k (UInt8.ofNat s.size) rfl (by simp; omega)
/-- A method bound to the reader in block r. -/
abbrev bnd (k:FuncId) (r:Nat):Value:=.func (.func k) #[.pointer (some ⟨r,0,none⟩)] #[]
/-- What is to be done next. -/
def Due (r:Nat) (s:ByteArray) (f:Value):Prop :=
 (f=.nilFunc∧W.stp X.rightB s.data.toList=none) ∨
 (f=bnd 25 r∧1≤s.size∧W.stp X.rightB s.data.toList=some (.drop,tl s 1)) ∨
 (f=bnd 27 r∧2≤s.size∧W.stp X.rightB s.data.toList=some (.bad,tl s 2)) ∨
 (f=bnd 30 r∧∃ (n:Nat) (h:3 < s.size),s[3].toNat=n∧n≤64∧6+n≤s.size∧W.stp X.rightB s.data.toList=some (.told s[2] (s.extract 4 (4+n)).data.toList,tl s (6+n)))
theorem keepC {w W W':World} {p:Addr} {v:Value} (h:Below w.heap.size w W) (hb:Below W.heap.size W W') (hc:W.cell? p=some v):W'.cell? p=some v∧Below w.heap.size w W':=by
 refine ⟨?_,h.trans (hb.mono h.size)⟩
 have hlt:p.block < W.heap.size:=by
  unfold World.cell? at hc
  split at hc
  ·
   next e=>exact (Array.getElem?_eq_some_iff.1 e).1
  ·
   cases hc
 exact (hb.cell hlt).trans hc
set_option maxHeartbeats 1600000 in
theorem fcount_any {s:ByteArray} {r:Nat} (W:World) (n:Nat) (hc:W.cell? ⟨r,0,none⟩=some (.string s)) (h:3 < s.size) (hn:s[3].toNat=n):Calls Try.prog 26 #[.pointer (some ⟨r,0,none⟩)] W (PVal (.int .i64 (n:Nat)) W):=by
 go_enter Try.func26,Try.ntmps26
 go_wp2
 go_ret
 have hw:wrap64 ((s[3].toNat:Nat):Int)=(s[3].toNat:Nat):=by have:=s[3].toNat_lt; unfold wrap64; omega
 exact ⟨by rw [← hn]; exact congrArg (fun z=>Ending.returned (.int .i64 z)) hw,Below.refl _ _⟩
set_option maxHeartbeats 1600000 in
theorem fsize_any {s:ByteArray} {r:Nat} (W:World) (n m:Nat) (hc:W.cell? ⟨r,0,none⟩=some (.string s)) (h:3 < s.size) (hn:s[3].toNat=n) (hm:6+n=m):Calls Try.prog 28 #[.pointer (some ⟨r,0,none⟩)] W (PVal (.int .i64 (m:Nat)) W):=by
 have hn2:n < 256:=by rw [← hn]; exact s[3].toNat_lt
 go_enter Try.func28,Try.ntmps28
 go_wp2_with fail
 refine (fcount_any W n hc h hn).mono ?_
 rintro e W1 ⟨rfl,hB⟩
 clear hn hc
 go_wp2
 go_ret
 exact ⟨by show Ending.returned (.int .i64 _)=_; rw [show (4:Int)+(n:Int)+2=((m:Nat):Int) by omega],hB⟩
section
variable {s:ByteArray} {r:Nat} {w:World}
/-- What look tells. -/
abbrev PLook (w:World) (f:Value) (e:Ending) (W':World):Prop:=e=.returned f∧Below w.heap.size w W'
set_option maxRecDepth 100000 in
set_option maxHeartbeats 3200000 in
theorem look0 (hc:w.cell? ⟨r,0,none⟩=some (.string s)) (h:s.size=0):Calls Try.prog 20 #[.pointer (some ⟨r,0,none⟩)] w (PLook w (.nilFunc)):=by
 have e1:((s.size:Int) == 0)=true:=by rw [h]; rfl
 have hmf:∀ (fn:Fn) (first cap:Array Value) (w:World),(Instr.makeFunc fn first cap).run Try.prog w=.ok (.func fn first cap) w:=fun _ _ _ _=>rfl
 go_enter Try.func20,Try.ntmps20
 go_wp2
 go_ret
 exact ⟨rfl,Below.refl _ _⟩
set_option maxRecDepth 100000 in
set_option maxHeartbeats 3200000 in
theorem look1 (hc:w.cell? ⟨r,0,none⟩=some (.string s)) (h:0 < s.size) (h1:s[0].toNat ≠ 165):Calls Try.prog 20 #[.pointer (some ⟨r,0,none⟩)] w (PLook w (bnd 25 r)):=by
 have e1:((s.size:Int) == 0)=false:=by rw [beq_eq_false_iff_ne]; omega
 have e2:(((s[0].toNat:Nat):Int) != 165)=true:=by rw [bne_iff_ne]; omega
 have hmf:∀ (fn:Fn) (first cap:Array Value) (w:World),(Instr.makeFunc fn first cap).run Try.prog w=.ok (.func fn first cap) w:=fun _ _ _ _=>rfl
 go_enter Try.func20,Try.ntmps20
 go_wp2
 go_ret
 exact ⟨rfl,Below.refl _ _⟩
set_option maxRecDepth 100000 in
set_option maxHeartbeats 3200000 in
theorem look2 (hc:w.cell? ⟨r,0,none⟩=some (.string s)) (h:0 < s.size) (h1:s[0].toNat=165) (h2:s.size=1):Calls Try.prog 20 #[.pointer (some ⟨r,0,none⟩)] w (PLook w (.nilFunc)):=by
 have e1:((s.size:Int) == 0)=false:=by rw [beq_eq_false_iff_ne]; omega
 have e2:(((s[0].toNat:Nat):Int) != 165)=false:=by rw [h1]; rfl
 have e3:((s.size:Int) == 1)=true:=by rw [h2]; rfl
 clear h1
 have hmf:∀ (fn:Fn) (first cap:Array Value) (w:World),(Instr.makeFunc fn first cap).run Try.prog w=.ok (.func fn first cap) w:=fun _ _ _ _=>rfl
 go_enter Try.func20,Try.ntmps20
 go_wp2
 go_ret
 exact ⟨rfl,Below.refl _ _⟩
set_option maxRecDepth 100000 in
set_option maxHeartbeats 3200000 in
theorem look3 (hc:w.cell? ⟨r,0,none⟩=some (.string s)) (h:1 < s.size) (h1:s[0].toNat=165) (h2:s[1].toNat ≠ 90):Calls Try.prog 20 #[.pointer (some ⟨r,0,none⟩)] w (PLook w (bnd 25 r)):=by
 have e1:((s.size:Int) == 0)=false:=by rw [beq_eq_false_iff_ne]; omega
 have e2:(((s[0].toNat:Nat):Int) != 165)=false:=by rw [h1]; rfl
 have e3:((s.size:Int) == 1)=false:=by rw [beq_eq_false_iff_ne]; omega
 have e4:(((s[1].toNat:Nat):Int) != 90)=true:=by rw [bne_iff_ne]; omega
 clear h1
 have hmf:∀ (fn:Fn) (first cap:Array Value) (w:World),(Instr.makeFunc fn first cap).run Try.prog w=.ok (.func fn first cap) w:=fun _ _ _ _=>rfl
 go_enter Try.func20,Try.ntmps20
 go_wp2
 go_ret
 exact ⟨rfl,Below.refl _ _⟩
set_option maxRecDepth 100000 in
set_option maxHeartbeats 3200000 in
theorem look4 (hc:w.cell? ⟨r,0,none⟩=some (.string s)) (h:1 < s.size) (h1:s[0].toNat=165) (h2:s[1].toNat=90) (h4:s.size < 4):Calls Try.prog 20 #[.pointer (some ⟨r,0,none⟩)] w (PLook w (.nilFunc)):=by
 have e1:((s.size:Int) == 0)=false:=by rw [beq_eq_false_iff_ne]; omega
 have e2:(((s[0].toNat:Nat):Int) != 165)=false:=by rw [h1]; rfl
 have e3:((s.size:Int) == 1)=false:=by rw [beq_eq_false_iff_ne]; omega
 have e4:(((s[1].toNat:Nat):Int) != 90)=false:=by rw [h2]; rfl
 have e5:decide ((s.size:Int) < 4)=true:=decide_eq_true (by omega)
 clear h1 h2
 have hmf:∀ (fn:Fn) (first cap:Array Value) (w:World),(Instr.makeFunc fn first cap).run Try.prog w=.ok (.func fn first cap) w:=fun _ _ _ _=>rfl
 go_enter Try.func20,Try.ntmps20
 go_wp2
 go_ret
 exact ⟨rfl,Below.refl _ _⟩
set_option maxRecDepth 100000 in
set_option maxHeartbeats 3200000 in
theorem look5 (hc:w.cell? ⟨r,0,none⟩=some (.string s)) (h:1 < s.size) (h1:s[0].toNat=165) (h2:s[1].toNat=90) (n:Nat) (h3:3 < s.size) (hn:s[3].toNat=n) (h5:64 < n):Calls Try.prog 20 #[.pointer (some ⟨r,0,none⟩)] w (PLook w (bnd 27 r)):=by
 have e1:((s.size:Int) == 0)=false:=by rw [beq_eq_false_iff_ne]; omega
 have e2:(((s[0].toNat:Nat):Int) != 165)=false:=by rw [h1]; rfl
 have e3:((s.size:Int) == 1)=false:=by rw [beq_eq_false_iff_ne]; omega
 have e4:(((s[1].toNat:Nat):Int) != 90)=false:=by rw [h2]; rfl
 have e5:decide ((s.size:Int) < 4)=false:=decide_eq_false (by omega)
 clear h1 h2
 have e6:decide ((64:Int) < (n:Nat))=true:=decide_eq_true (by omega)
 have hmf:∀ (fn:Fn) (first cap:Array Value) (w:World),(Instr.makeFunc fn first cap).run Try.prog w=.ok (.func fn first cap) w:=fun _ _ _ _=>rfl
 go_enter Try.func20,Try.ntmps20
 have HN:=Lib.hid hn
 clear hn
 go_wp2_with fail
 refine (fcount_any w n hc h3 HN.out).mono ?_
 rintro e0 W0 ⟨rfl,hB⟩
 have hW:=keepC (Below.refl w.heap.size w) hB hc
 clear hB
 go_wp2
 go_ret
 exact ⟨rfl,hW.2⟩
set_option maxRecDepth 100000 in
set_option maxHeartbeats 3200000 in
theorem look6 (hc:w.cell? ⟨r,0,none⟩=some (.string s)) (h:1 < s.size) (h1:s[0].toNat=165) (h2:s[1].toNat=90) (n:Nat) (h3:3 < s.size) (hn:s[3].toNat=n) (h5:n≤64) (m:Nat) (hm:6+n=m) (h6:s.size < m):Calls Try.prog 20 #[.pointer (some ⟨r,0,none⟩)] w (PLook w (.nilFunc)):=by
 have e1:((s.size:Int) == 0)=false:=by rw [beq_eq_false_iff_ne]; omega
 have e2:(((s[0].toNat:Nat):Int) != 165)=false:=by rw [h1]; rfl
 have e3:((s.size:Int) == 1)=false:=by rw [beq_eq_false_iff_ne]; omega
 have e4:(((s[1].toNat:Nat):Int) != 90)=false:=by rw [h2]; rfl
 have e5:decide ((s.size:Int) < 4)=false:=decide_eq_false (by omega)
 clear h1 h2
 have e6:decide ((64:Int) < (n:Nat))=false:=decide_eq_false (by omega)
 have e8:decide ((s.size:Int) < ((m:Nat):Int))=true:=decide_eq_true (by omega)
 have hmf:∀ (fn:Fn) (first cap:Array Value) (w:World),(Instr.makeFunc fn first cap).run Try.prog w=.ok (.func fn first cap) w:=fun _ _ _ _=>rfl
 go_enter Try.func20,Try.ntmps20
 have HN:=Lib.hid hn
 clear hn
 go_wp2_with fail
 refine (fcount_any w n hc h3 HN.out).mono ?_
 rintro e0 W0 ⟨rfl,hB⟩
 have hW:=keepC (Below.refl w.heap.size w) hB hc
 clear hB
 go_wp2_with fail
 refine (fsize_any W0 n m hW.1 h3 HN.out hm).mono ?_
 rintro e7 W1 ⟨rfl,hB⟩
 replace hW:=keepC hW.2 hB hW.1
 clear hB
 go_wp2
 go_ret
 exact ⟨rfl,hW.2⟩
set_option maxRecDepth 100000 in
set_option maxHeartbeats 3200000 in
theorem look7 (hc:w.cell? ⟨r,0,none⟩=some (.string s)) (h:1 < s.size) (h1:s[0].toNat=165) (h2:s[1].toNat=90) (n:Nat) (h3:3 < s.size) (hn:s[3].toNat=n) (h5:n≤64) (m:Nat) (hm:6+n=m) (h6:m≤s.size) (hs:s.size≤4611686018427387900) (hr:rightS (s.extract 2 m)=false):Calls Try.prog 20 #[.pointer (some ⟨r,0,none⟩)] w (PLook w (bnd 27 r)):=by
 obtain ⟨t,ht⟩:∃ t,s.extract 2 m=t:=⟨_,rfl⟩
 rw [ht] at hr
 have hR:∀ W,Calls Try.prog 29 #[.string t] W (PVal (.bool false) W):=fun W=>hr ▸ cright_any t W (by rw [← ht,ByteArray.size_extract]; omega)
 have HR:=Lib.hid hR
 have HT:=Lib.hid ht
 clear hR hr ht
 have e1:((s.size:Int) == 0)=false:=by rw [beq_eq_false_iff_ne]; omega
 have e2:(((s[0].toNat:Nat):Int) != 165)=false:=by rw [h1]; rfl
 have e3:((s.size:Int) == 1)=false:=by rw [beq_eq_false_iff_ne]; omega
 have e4:(((s[1].toNat:Nat):Int) != 90)=false:=by rw [h2]; rfl
 have e5:decide ((s.size:Int) < 4)=false:=decide_eq_false (by omega)
 clear h1 h2
 have e6:decide ((64:Int) < (n:Nat))=false:=decide_eq_false (by omega)
 have e8:decide ((s.size:Int) < ((m:Nat):Int))=false:=decide_eq_false (by omega)
 have hmf:∀ (fn:Fn) (first cap:Array Value) (w:World),(Instr.makeFunc fn first cap).run Try.prog w=.ok (.func fn first cap) w:=fun _ _ _ _=>rfl
 go_enter Try.func20,Try.ntmps20
 have HN:=Lib.hid hn
 clear hn
 go_wp2_with fail
 refine (fcount_any w n hc h3 HN.out).mono ?_
 rintro e0 W0 ⟨rfl,hB⟩
 have hW:=keepC (Below.refl w.heap.size w) hB hc
 clear hB
 go_wp2_with fail
 refine (fsize_any W0 n m hW.1 h3 HN.out hm).mono ?_
 rintro e7 W1 ⟨rfl,hB⟩
 replace hW:=keepC hW.2 hB hW.1
 clear hB
 go_wp2
 refine wp_region_vals 10 [some 48,some 49,some 50,some 51,some 52,some 53,some 54,some 55,some 56,some 47] (lstV [.pointer (some ⟨r,0,none⟩),.pointer (some ⟨r,0,none⟩),.pointer (some ⟨r,0,none⟩),.string s,.pointer (some ⟨r,0,none⟩),.int .i64 (m:Nat),.string t,.bool false,.bool true,.bool true]) (fun W=>W.cell? ⟨r,0,none⟩=some (.string s)∧Below w.heap.size w W) (by kernel_rfl) (by kernel_rfl) (by decide) (⟨by simpa using hW.1,hW.2.drew⟩) ?_ ?_
 ·
  intro i hl hi u W hJ hd
  obtain rfl | rfl | rfl | rfl | rfl | rfl | rfl | rfl | rfl | rfl:i=0∨i=1∨i=2∨i=3∨i=4∨i=5∨i=6∨i=7∨i=8∨i=9:=by omega
  ·
   clear hd
   simp only [zzA,zzB]
   clear hl
   refine .inr ⟨rfl,fun K' hK=>?_⟩
   have HK:=Lib.hid hK
   clear hK
   simp only [layS,Act.put,zzC,zzD,zzE,Nat.zero_add,Nat.reduceAdd]
   have hcell:=hJ.1
   go_simp
   exact HK.out _ _ (by simp [layS,updV,lstV,Act.put] <;> omega) hJ
  ·
   have e0:u 0=.pointer (some ⟨r,0,none⟩):=hd 0 (by kernel_rfl)
   clear hd
   simp only [zzA,zzB]
   clear hl
   refine .inr ⟨rfl,fun K' hK=>?_⟩
   have HK:=Lib.hid hK
   clear hK
   simp only [layS,Act.put,zzC,zzD,zzE,Nat.zero_add,Nat.reduceAdd,e0]
   have E0:=Lib.hid e0
   clear e0
   have hcell:=hJ.1
   go_simp
   exact HK.out _ _ (by simp [layS,updV,lstV,Act.put,E0.out] <;> omega) hJ
  ·
   have e1:u 1=.pointer (some ⟨r,0,none⟩):=hd 1 (by kernel_rfl)
   clear hd
   simp only [zzA,zzB]
   clear hl
   refine .inr ⟨rfl,fun K' hK=>?_⟩
   have HK:=Lib.hid hK
   clear hK
   simp only [layS,Act.put,zzC,zzD,zzE,Nat.zero_add,Nat.reduceAdd,e1]
   have E1:=Lib.hid e1
   clear e1
   have hcell:=hJ.1
   go_simp
   exact HK.out _ _ (by simp [layS,updV,lstV,Act.put,E1.out] <;> omega) hJ
  ·
   have e2:u 2=.pointer (some ⟨r,0,none⟩):=hd 2 (by kernel_rfl)
   clear hd
   simp only [zzA,zzB]
   clear hl
   refine .inr ⟨rfl,fun K' hK=>?_⟩
   have HK:=Lib.hid hK
   clear hK
   simp only [layS,Act.put,zzC,zzD,zzE,Nat.zero_add,Nat.reduceAdd,e2]
   have E2:=Lib.hid e2
   clear e2
   have hcell:=hJ.1
   go_simp
   exact HK.out _ _ (by simp [layS,updV,lstV,Act.put,E2.out] <;> omega) hJ
  ·
   clear hd
   simp only [zzA,zzB]
   clear hl
   refine .inr ⟨rfl,fun K' hK=>?_⟩
   have HK:=Lib.hid hK
   clear hK
   simp only [layS,Act.put,zzC,zzD,zzE,Nat.zero_add,Nat.reduceAdd]
   have hcell:=hJ.1
   go_simp
   exact HK.out _ _ (by simp [layS,updV,lstV,Act.put] <;> omega) hJ
  ·
   have e4:u 4=.pointer (some ⟨r,0,none⟩):=hd 4 (by kernel_rfl)
   clear hd
   simp only [zzA,zzB]
   clear hl
   refine .inr ⟨rfl,fun K' hK=>?_⟩
   have HK:=Lib.hid hK
   clear hK
   simp only [layS,Act.put,zzC,zzD,zzE,Nat.zero_add,Nat.reduceAdd,e4]
   have E4:=Lib.hid e4
   clear e4
   have hcell:=hJ.1
   go_simp
   refine (fsize_any W n m hJ.1 h3 HN.out hm).mono ?_
   rintro e W' ⟨rfl,hB⟩
   exact HK.out _ _ (by simp [layS,updV,lstV,Act.put,E4.out] <;> omega) (⟨(keepC hJ.2 hB hJ.1).1,(keepC hJ.2 hB hJ.1).2⟩)
  ·
   have e3:u 3=.string s:=hd 3 (by kernel_rfl)
   have e5:u 5=.int .i64 (m:Nat):=hd 5 (by kernel_rfl)
   clear hd
   simp only [zzA,zzB]
   clear hl
   refine .inr ⟨rfl,fun K' hK=>?_⟩
   have HK:=Lib.hid hK
   clear hK
   simp only [layS,Act.put,zzC,zzD,zzE,Nat.zero_add,Nat.reduceAdd,e3,e5]
   have E3:=Lib.hid e3
   have E5:=Lib.hid e5
   clear e3 e5
   have hcell:=hJ.1
   have hle:2≤m∧m≤s.size:=by omega
   have ht:=HT.out
   go_simp
   rw [if_pos (by omega)]
   go_simp
   exact HK.out _ _ (by simp [layS,updV,lstV,Act.put,E3.out,E5.out] <;> omega) hJ
  ·
   have e6:u 6=.string t:=hd 6 (by kernel_rfl)
   clear hd
   simp only [zzA,zzB]
   clear hl
   refine .inr ⟨rfl,fun K' hK=>?_⟩
   have HK:=Lib.hid hK
   clear hK
   simp only [layS,Act.put,zzC,zzD,zzE,Nat.zero_add,Nat.reduceAdd,e6]
   have E6:=Lib.hid e6
   clear e6
   have hcell:=hJ.1
   go_simp
   refine (HR.out _).mono ?_
   rintro e W' ⟨rfl,hB⟩
   exact HK.out _ _ (by simp [layS,updV,lstV,Act.put,E6.out] <;> omega) (⟨(keepC hJ.2 hB hJ.1).1,(keepC hJ.2 hB hJ.1).2⟩)
  ·
   have e7:u 7=.bool false:=hd 7 (by kernel_rfl)
   clear hd
   simp only [zzA,zzB]
   clear hl
   refine .inr ⟨rfl,fun K' hK=>?_⟩
   have HK:=Lib.hid hK
   clear hK
   simp only [layS,Act.put,zzC,zzD,zzE,Nat.zero_add,Nat.reduceAdd,e7]
   have E7:=Lib.hid e7
   clear e7
   have hcell:=hJ.1
   go_simp
   exact HK.out _ _ (by simp [layS,updV,lstV,Act.put,E7.out] <;> omega) hJ
  ·
   have e8:u 8=.bool true:=hd 8 (by kernel_rfl)
   clear hd
   simp only [zzA,zzB]
   clear hl
   refine .inr ⟨rfl,fun K' hK=>?_⟩
   have HK:=Lib.hid hK
   clear hK
   simp only [layS,Act.put,zzC,zzD,zzE,Nat.zero_add,Nat.reduceAdd,e8]
   have E8:=Lib.hid e8
   clear e8
   have hcell:=hJ.1
   go_simp
   exact HK.out _ _ (by simp [layS,updV,lstV,Act.put,E8.out] <;> omega) hJ
 intro W hJ
 simp only [layS,lstV,Act.put,zzC,zzD,zzE,Nat.zero_add,Nat.reduceAdd,List.getD_cons_zero,List.getD_cons_succ,List.drop_succ_cons,List.drop_zero,List.drop_nil]
 go_wp2
 go_ret
 exact ⟨rfl,hJ.2⟩
set_option maxRecDepth 100000 in
set_option maxHeartbeats 3200000 in
theorem look8 (hc:w.cell? ⟨r,0,none⟩=some (.string s)) (h:1 < s.size) (h1:s[0].toNat=165) (h2:s[1].toNat=90) (n:Nat) (h3:3 < s.size) (hn:s[3].toNat=n) (h5:n≤64) (m:Nat) (hm:6+n=m) (h6:m≤s.size) (hs:s.size≤4611686018427387900) (hr:rightS (s.extract 2 m)=true):Calls Try.prog 20 #[.pointer (some ⟨r,0,none⟩)] w (PLook w (bnd 30 r)):=by
 obtain ⟨t,ht⟩:∃ t,s.extract 2 m=t:=⟨_,rfl⟩
 rw [ht] at hr
 have hR:∀ W,Calls Try.prog 29 #[.string t] W (PVal (.bool true) W):=fun W=>hr ▸ cright_any t W (by rw [← ht,ByteArray.size_extract]; omega)
 have HR:=Lib.hid hR
 have HT:=Lib.hid ht
 clear hR hr ht
 have e1:((s.size:Int) == 0)=false:=by rw [beq_eq_false_iff_ne]; omega
 have e2:(((s[0].toNat:Nat):Int) != 165)=false:=by rw [h1]; rfl
 have e3:((s.size:Int) == 1)=false:=by rw [beq_eq_false_iff_ne]; omega
 have e4:(((s[1].toNat:Nat):Int) != 90)=false:=by rw [h2]; rfl
 have e5:decide ((s.size:Int) < 4)=false:=decide_eq_false (by omega)
 clear h1 h2
 have e6:decide ((64:Int) < (n:Nat))=false:=decide_eq_false (by omega)
 have e8:decide ((s.size:Int) < ((m:Nat):Int))=false:=decide_eq_false (by omega)
 have hmf:∀ (fn:Fn) (first cap:Array Value) (w:World),(Instr.makeFunc fn first cap).run Try.prog w=.ok (.func fn first cap) w:=fun _ _ _ _=>rfl
 go_enter Try.func20,Try.ntmps20
 have HN:=Lib.hid hn
 clear hn
 go_wp2_with fail
 refine (fcount_any w n hc h3 HN.out).mono ?_
 rintro e0 W0 ⟨rfl,hB⟩
 have hW:=keepC (Below.refl w.heap.size w) hB hc
 clear hB
 go_wp2_with fail
 refine (fsize_any W0 n m hW.1 h3 HN.out hm).mono ?_
 rintro e7 W1 ⟨rfl,hB⟩
 replace hW:=keepC hW.2 hB hW.1
 clear hB
 go_wp2
 refine wp_region_vals 10 [some 48,some 49,some 50,some 51,some 52,some 53,some 54,some 55,some 56,some 47] (lstV [.pointer (some ⟨r,0,none⟩),.pointer (some ⟨r,0,none⟩),.pointer (some ⟨r,0,none⟩),.string s,.pointer (some ⟨r,0,none⟩),.int .i64 (m:Nat),.string t,.bool true,.bool false,.bool false]) (fun W=>W.cell? ⟨r,0,none⟩=some (.string s)∧Below w.heap.size w W) (by kernel_rfl) (by kernel_rfl) (by decide) (⟨by simpa using hW.1,hW.2.drew⟩) ?_ ?_
 ·
  intro i hl hi u W hJ hd
  obtain rfl | rfl | rfl | rfl | rfl | rfl | rfl | rfl | rfl | rfl:i=0∨i=1∨i=2∨i=3∨i=4∨i=5∨i=6∨i=7∨i=8∨i=9:=by omega
  ·
   clear hd
   simp only [zzA,zzB]
   clear hl
   refine .inr ⟨rfl,fun K' hK=>?_⟩
   have HK:=Lib.hid hK
   clear hK
   simp only [layS,Act.put,zzC,zzD,zzE,Nat.zero_add,Nat.reduceAdd]
   have hcell:=hJ.1
   go_simp
   exact HK.out _ _ (by simp [layS,updV,lstV,Act.put] <;> omega) hJ
  ·
   have e0:u 0=.pointer (some ⟨r,0,none⟩):=hd 0 (by kernel_rfl)
   clear hd
   simp only [zzA,zzB]
   clear hl
   refine .inr ⟨rfl,fun K' hK=>?_⟩
   have HK:=Lib.hid hK
   clear hK
   simp only [layS,Act.put,zzC,zzD,zzE,Nat.zero_add,Nat.reduceAdd,e0]
   have E0:=Lib.hid e0
   clear e0
   have hcell:=hJ.1
   go_simp
   exact HK.out _ _ (by simp [layS,updV,lstV,Act.put,E0.out] <;> omega) hJ
  ·
   have e1:u 1=.pointer (some ⟨r,0,none⟩):=hd 1 (by kernel_rfl)
   clear hd
   simp only [zzA,zzB]
   clear hl
   refine .inr ⟨rfl,fun K' hK=>?_⟩
   have HK:=Lib.hid hK
   clear hK
   simp only [layS,Act.put,zzC,zzD,zzE,Nat.zero_add,Nat.reduceAdd,e1]
   have E1:=Lib.hid e1
   clear e1
   have hcell:=hJ.1
   go_simp
   exact HK.out _ _ (by simp [layS,updV,lstV,Act.put,E1.out] <;> omega) hJ
  ·
   have e2:u 2=.pointer (some ⟨r,0,none⟩):=hd 2 (by kernel_rfl)
   clear hd
   simp only [zzA,zzB]
   clear hl
   refine .inr ⟨rfl,fun K' hK=>?_⟩
   have HK:=Lib.hid hK
   clear hK
   simp only [layS,Act.put,zzC,zzD,zzE,Nat.zero_add,Nat.reduceAdd,e2]
   have E2:=Lib.hid e2
   clear e2
   have hcell:=hJ.1
   go_simp
   exact HK.out _ _ (by simp [layS,updV,lstV,Act.put,E2.out] <;> omega) hJ
  ·
   clear hd
   simp only [zzA,zzB]
   clear hl
   refine .inr ⟨rfl,fun K' hK=>?_⟩
   have HK:=Lib.hid hK
   clear hK
   simp only [layS,Act.put,zzC,zzD,zzE,Nat.zero_add,Nat.reduceAdd]
   have hcell:=hJ.1
   go_simp
   exact HK.out _ _ (by simp [layS,updV,lstV,Act.put] <;> omega) hJ
  ·
   have e4:u 4=.pointer (some ⟨r,0,none⟩):=hd 4 (by kernel_rfl)
   clear hd
   simp only [zzA,zzB]
   clear hl
   refine .inr ⟨rfl,fun K' hK=>?_⟩
   have HK:=Lib.hid hK
   clear hK
   simp only [layS,Act.put,zzC,zzD,zzE,Nat.zero_add,Nat.reduceAdd,e4]
   have E4:=Lib.hid e4
   clear e4
   have hcell:=hJ.1
   go_simp
   refine (fsize_any W n m hJ.1 h3 HN.out hm).mono ?_
   rintro e W' ⟨rfl,hB⟩
   exact HK.out _ _ (by simp [layS,updV,lstV,Act.put,E4.out] <;> omega) (⟨(keepC hJ.2 hB hJ.1).1,(keepC hJ.2 hB hJ.1).2⟩)
  ·
   have e3:u 3=.string s:=hd 3 (by kernel_rfl)
   have e5:u 5=.int .i64 (m:Nat):=hd 5 (by kernel_rfl)
   clear hd
   simp only [zzA,zzB]
   clear hl
   refine .inr ⟨rfl,fun K' hK=>?_⟩
   have HK:=Lib.hid hK
   clear hK
   simp only [layS,Act.put,zzC,zzD,zzE,Nat.zero_add,Nat.reduceAdd,e3,e5]
   have E3:=Lib.hid e3
   have E5:=Lib.hid e5
   clear e3 e5
   have hcell:=hJ.1
   have hle:2≤m∧m≤s.size:=by omega
   have ht:=HT.out
   go_simp
   rw [if_pos (by omega)]
   go_simp
   exact HK.out _ _ (by simp [layS,updV,lstV,Act.put,E3.out,E5.out] <;> omega) hJ
  ·
   have e6:u 6=.string t:=hd 6 (by kernel_rfl)
   clear hd
   simp only [zzA,zzB]
   clear hl
   refine .inr ⟨rfl,fun K' hK=>?_⟩
   have HK:=Lib.hid hK
   clear hK
   simp only [layS,Act.put,zzC,zzD,zzE,Nat.zero_add,Nat.reduceAdd,e6]
   have E6:=Lib.hid e6
   clear e6
   have hcell:=hJ.1
   go_simp
   refine (HR.out _).mono ?_
   rintro e W' ⟨rfl,hB⟩
   exact HK.out _ _ (by simp [layS,updV,lstV,Act.put,E6.out] <;> omega) (⟨(keepC hJ.2 hB hJ.1).1,(keepC hJ.2 hB hJ.1).2⟩)
  ·
   have e7:u 7=.bool true:=hd 7 (by kernel_rfl)
   clear hd
   simp only [zzA,zzB]
   clear hl
   refine .inr ⟨rfl,fun K' hK=>?_⟩
   have HK:=Lib.hid hK
   clear hK
   simp only [layS,Act.put,zzC,zzD,zzE,Nat.zero_add,Nat.reduceAdd,e7]
   have E7:=Lib.hid e7
   clear e7
   have hcell:=hJ.1
   go_simp
   exact HK.out _ _ (by simp [layS,updV,lstV,Act.put,E7.out] <;> omega) hJ
  ·
   have e8:u 8=.bool false:=hd 8 (by kernel_rfl)
   clear hd
   simp only [zzA,zzB]
   clear hl
   refine .inr ⟨rfl,fun K' hK=>?_⟩
   have HK:=Lib.hid hK
   clear hK
   simp only [layS,Act.put,zzC,zzD,zzE,Nat.zero_add,Nat.reduceAdd,e8]
   have E8:=Lib.hid e8
   clear e8
   have hcell:=hJ.1
   go_simp
   exact HK.out _ _ (by simp [layS,updV,lstV,Act.put,E8.out] <;> omega) hJ
 intro W hJ
 simp only [layS,lstV,Act.put,zzC,zzD,zzE,Nat.zero_add,Nat.reduceAdd,List.getD_cons_zero,List.getD_cons_succ,List.drop_succ_cons,List.drop_zero,List.drop_nil]
 go_wp2
 go_ret
 exact ⟨rfl,hJ.2⟩
theorem look_any (hc:w.cell? ⟨r,0,none⟩=some (.string s)) (hs:s.size≤4611686018427387900):Calls Try.prog 20 #[.pointer (some ⟨r,0,none⟩)] w fun e W'=>∃ f,e=.returned f∧Due r s f∧Below w.heap.size w W':=by
 have use:∀ f,Due r s f→Calls Try.prog 20 #[.pointer (some ⟨r,0,none⟩)] w (PLook w f)→Calls Try.prog 20 #[.pointer (some ⟨r,0,none⟩)] w fun e W'=>∃ f,e=.returned f∧Due r s f∧Below w.heap.size w W':=fun f hd h=>h.mono fun e W' he=>⟨f,he.1,hd,he.2⟩
 have t0:tl s 0=s.data.toList:=rfl
 by_cases h0:s.size=0
 ·
  exact use _ (.inl ⟨rfl,by rw [← t0,tl_end (by omega)]; rfl⟩) (look0 hc h0)
 have h0':0 < s.size:=by omega
 by_cases h1:s[0].toNat=165
 ·
  by_cases h2:s.size=1
  ·
   exact use _ (.inl ⟨rfl,t0 ▸ rd_end h0' h1 (by omega)⟩) (look2 hc h0' h1 h2)
  have h2':1 < s.size:=by omega
  by_cases h3:s[1].toNat=90
  ·
   by_cases h4:s.size < 4
   ·
    exact use _ (.inl ⟨rfl,t0 ▸ rd_short (i:=0) h2' h1 h3 (by omega)⟩) (look4 hc h2' h1 h3 h4)
   have h4':3 < s.size:=by omega
   obtain ⟨n,hn⟩:∃ n,s[3].toNat=n:=⟨_,rfl⟩
   by_cases h5:64 < n
   ·
    exact use _ (.inr (.inr (.inl ⟨rfl,by omega,t0 ▸ rd_big (i:=0) h4' h1 h3 (hn.symm ▸ h5)⟩))) (look5 hc h2' h1 h3 n h4' hn h5)
   by_cases h6:s.size < 6+n
   ·
    exact use _ (.inl ⟨rfl,t0 ▸ rd_wait (i:=0) h4' h1 h3 (hn.symm ▸ h5) (by rw [hn]; omega)⟩) (look6 hc h2' h1 h3 n h4' hn (by omega) _ rfl h6)
   have ez:0+6+n=6+n:=by omega
   cases hr:rightS (s.extract 2 (6+n)) with
   | false=>exact use _ (.inr (.inr (.inl ⟨rfl,by omega,t0 ▸ rd_bad (i:=0) h4' h1 h3 hn h5 (by omega) hr⟩))) (look7 hc h2' h1 h3 n h4' hn (by omega) _ rfl (by omega) hs hr)
   | true=>exact use _ (.inr (.inr (.inr ⟨rfl,n,h4',hn,by omega,by omega,t0 ▸ rd_told (i:=0) h4' h1 h3 hn h5 (by omega) hr⟩))) (look8 hc h2' h1 h3 n h4' hn (by omega) _ rfl (by omega) hs hr)
  ·
   exact use _ (.inr (.inl ⟨rfl,h0',t0 ▸ rd_skip2 (i:=0) h2' h1 h3⟩)) (look3 hc h2' h1 h3)
 ·
  exact use _ (.inr (.inl ⟨rfl,h0',t0 ▸ rd_skip h0' h1⟩)) (look1 hc h0' h1)
end
end Go.Proofs.Ytadbijfjfoeojaa
