/- Parts of the proof. -/
import Derived.Test.YtgallhpfabedoaaJc0
import Derived.Test.YtgallhpfabedoaaJc17
import Derived.Test.YtgallhpfabedoaaJc3
import Derived.WalkMore
import Derived.Deep.LoopGhost
set_option linter.unusedSimpArgs false
set_option linter.unusedVariables false
/- Package crc: the walks of More, Of, Seal, Right. No statement of the seat is proved here. -/
namespace Go.Proofs.Ytgallhpfabedoaa
open Go Go.RowKit
theorem and_nat {x:Nat} (h:x < 65536):x &&& 32768=if x < 32768 then 0 else 32768:=by
 rw [nat_bit15]
 split <;> omega
theorem and_lo {v:Int} (h0:0≤v) (h:v < 32768):bits .and .u16 v 32768=0:=by
 obtain ⟨x,rfl⟩:=Int.eq_ofNat_of_zero_le h0
 have:=u16_and_nat x 32768 (by omega) (by decide)
 rw [and_nat (by omega),if_pos (by omega)] at this
 exact this
theorem and_hi {v:Int} (h0:¬ v < 32768) (h:v < 65536):bits .and .u16 v 32768=32768:=by
 obtain ⟨x,rfl⟩:=Int.eq_ofNat_of_zero_le (show 0≤v by omega)
 have:=u16_and_nat x 32768 (by omega) (by decide)
 rw [and_nat (by omega),if_neg (by omega)] at this
 exact this
set_option maxRecDepth 100000 in
set_option maxHeartbeats 1600000 in
theorem cmore_any (s0:Nat) (s:ByteArray) (z:Int) (w:World) (h0:s0 < 65536) (hz:z=(s0:Nat)) (hs:s.size≤4611686018427387904):Calls Try.prog 10 #[.int .u16 z,.string s] w (PVal (.int .u16 (X.csB s0 s.data.toList:Nat)) w):=by
 have HZ:=Lib.hid hz
 have hzb:0≤z∧z < 65536:=by omega
 clear hz
 go_enter Try.func10,Try.ntmps10
 go_wp2
 go_step3
 go_wp2
 go_step3
 go_wp2_with (refine zso rfl (fun K hK=>wp_cvb (.tmp 9) rfl rfl (fun g c W1 hg hc hby hB=>hK _ _ ?_)))
 simp only [Stop,Act.put,zzC,zzD,zzE]
 go_wp2
 go_loopg [0,12] s.size (fun n sv iv wx=>∃ k:Nat,∃ y:Int,k+n=s.size∧iv=.int .i64 k∧sv=.int .u16 y∧(0≤y∧y < 65536)∧Hid (y=(X.csB s0 (s.data.toList.take k):Nat))∧wx=W1)
 case atStart=>exact ⟨0,z,by omega,rfl,rfl,hzb,HZ.out,rfl⟩
 case round =>
  obtain ⟨k,y,hk,rfl,rfl,hy,HY,rfl⟩:=hrel
  cases gk with
  | zero =>
   obtain rfl:k=s.size:=by omega
   go_wp2
   rw [Exit.noGoto_ret]
   go_ret
   exact ⟨ret_int (by rw [HY.out,List.take_of_length_le (by simp)]),hB⟩
  | succ m =>
   have hlt:k < s.size:=by omega
   have hb:=byA_lt s k
   have hcell:=hby.cell hlt
   obtain ⟨u,hu⟩:∃ u:Nat,u=X.csB s0 (s.data.toList.take k) ^^^ s[k].toNat*256:=⟨_,rfl⟩
   have hul:u < 65536:=by rw [hu]; exact byte_in (X.csB_lt _ h0) s[k].toNat_lt
   obtain ⟨u',hu'⟩:∃ u':Int,u'=(u:Nat):=⟨_,rfl⟩
   have HU:=Lib.hid hu
   have HU':=Lib.hid hu'
   clear hu hu'
   have hx:bits .xor .u16 y ((byA s k:Int)*256)=u':=by
    rw [HY.out,HU'.out,HU.out,byA_eq hlt]
    exact u16_xor_nat _ (s[k].toNat*256) (X.csB_lt (s.data.toList.take k) h0) (by have:=s[k].toNat_lt; omega)
   go_wp2
   clear hx
   go_loopg [0,7] 8 (fun n sv iv wx=>∃ j:Nat,∃ v:Int,j+n=8∧iv=.int .i64 j∧sv=.int .u16 v∧Hid (v=(X.cbn j u:Nat))∧wx=wr)
   case atStart=>exact ⟨0,u',by omega,rfl,rfl,HU',rfl⟩
   case round =>
    obtain ⟨j,v,hj,rfl,rfl,HV,rfl⟩:=hrel
    have hv:0≤v∧v < 65536:=by have:=HV.out; have:=cbn_lt hul j; omega
    cases gk with
    | zero =>
     obtain rfl:j=8:=by omega
     go_wp2
     go_roundg m
     case measure=>omega
     case rel=>exact ⟨k+1,v,by omega,by go_num,rfl,hv,by show _=_; rw [HV.out,HU.out,csB_take s0 hlt],rfl⟩
    | succ q =>
     have hn:Hid (X.cbn (j+1) u=X.cb (X.cbn j u)):=cbn_snoc j u
     by_cases hl:v < 32768
     ·
      have ha:bits .and .u16 v 32768=0:=and_lo hv.1 hl
      go_wp2
      go_roundg q
      case measure=>omega
      case rel=>exact ⟨j+1,v*2,by omega,by go_num,rfl,by show _=_; rw [hn.out,X.cb_small (by have:=HV.out; omega)]; have:=HV.out; omega,rfl⟩
     ·
      have ha:bits .and .u16 v 32768=32768:=and_hi hl hv.2
      obtain ⟨t,ht⟩:∃ t:Int,t=v*2 - 65536:=⟨_,rfl⟩
      have hw:IntKind.u16.wrap (v*2)=t:=by rw [IntKind.wrap_u16]; omega
      obtain ⟨v2,hv2⟩:∃ v2:Int,v2=(X.cbn (j+1) u:Nat):=⟨_,rfl⟩
      have hx2:bits .xor .u16 t 4129=v2:=by
       have e:t=((X.cbn j u*2 - 65536:Nat):Int):=by have:=HV.out; omega
       rw [hv2,hn.out,cb_hi (cbn_lt hul j) (by have:=HV.out; omega),e]
       exact u16_xor_nat _ 4129 (by have:=cbn_lt hul j; omega) (by decide)
      have HV2:=Lib.hid hv2
      clear ht hv2
      go_wp2
      go_roundg q
      case measure=>omega
      case rel=>exact ⟨j+1,v2,by omega,by go_num,rfl,HV2,rfl⟩
theorem cof_any (s:ByteArray) (w:World) (hs:s.size≤4611686018427387904):Calls Try.prog 11 #[.string s] w (PVal (.int .u16 (X.csB 65535 s.data.toList:Nat)) w):=by
 have hc:=fun W=>cmore_any 65535 s 65535 W (by decide) rfl hs
 have HC:=Lib.hid hc
 clear hc
 generalize X.csB 65535 s.data.toList=c at *
 go_enter Try.func11,Try.ntmps11
 go_wp2_with fail
 refine (HC.out _).mono ?_
 rintro e w' ⟨rfl,hB⟩
 go_wp2
 go_ret
 exact ⟨rfl,hB⟩
/-- The two bytes behind a text. -/
def tlS (n:Nat):ByteArray:=⟨#[UInt8.ofNat (n / 256),UInt8.ofNat (n % 256)]⟩
set_option maxHeartbeats 1600000 in
theorem ctail_w (s t:ByteArray) (n:Int) (w:World) (hs:s.size≤4611686018427387904) (h:0≤n∧n < 65536) (hof:∀ W,Calls Try.prog 11 #[.string s] W (PVal (.int .u16 n) W))
  (hcv:∀ W:World,(convert 32 9 (.slice (some ⟨W.heap.size,0,none⟩) 2 2)).run Try.prog (W.alloc (.cells #[.int .u8 (n / 256),.int .u8 (n % 256)] 5))=.ok (.string t) (W.alloc (.cells #[.int .u8 (n / 256),.int .u8 (n % 256)] 5))) :
  Calls Try.prog 19 #[.string s] w (PVal (.string t) w):=by
 have HC:=Lib.hid hof
 have HV:=Lib.hid hcv
 have hw:IntKind.u8.wrap n=n % 256:=IntKind.wrap_u8' n
 clear hof hcv
 go_enter Try.func19,Try.ntmps19
 go_wp2_with fail
 refine (HC.out _).mono ?_
 rintro e W ⟨rfl,hB⟩
 have hcv:=HV.out W
 go_wp2
 go_ret
 exact ⟨rfl,hB.alloc hB.size _⟩
theorem ctail_any (s:ByteArray) (w:World) (hs:s.size≤4611686018427387904):Calls Try.prog 19 #[.string s] w (PVal (.string (tlS (X.csB 65535 s.data.toList))) w):=by
 have hl:=X.csB_lt s.data.toList (show 65535 < 65536 by decide)
 obtain ⟨e1,e2⟩:=X.twoB_at hl
 exact ctail_w s _ _ w hs (by omega) (fun W=>cof_any s W hs) (fun W=>str_two W _ _ _ _ (by rw [e1]; omega) (by rw [e2]; omega))
set_option maxHeartbeats 1600000 in
theorem cseal_w (s t r:ByteArray) (w:World) (hs:s.size≤4611686018427387904) (ht:t.size=2) (htl:∀ W,Calls Try.prog 19 #[.string s] W (PVal (.string t) W)) (hr:s++t=r) :
  Calls Try.prog 14 #[.string s] w (PVal (.string r) w):=by
 have HC:=Lib.hid htl
 clear htl
 go_enter Try.func14,Try.ntmps14
 go_wp2_with fail
 refine (HC.out _).mono ?_
 rintro e W ⟨rfl,hB⟩
 go_wp2
 go_ret
 exact ⟨rfl,hB⟩
theorem cseal_any (s:ByteArray) (w:World) (hs:s.size≤4611686018427387904):Calls Try.prog 14 #[.string s] w (PVal (.string (sealS s)) w) :=
 cseal_w s _ _ w hs rfl (fun W=>ctail_any s W hs) (seal_eq s)
theorem tail_right {s:ByteArray} (h:2≤s.size):((s.extract (s.size - 2) s.size).toList == (tlS (X.csB 65535 (s.extract 0 (s.size - 2)).data.toList)).toList)=rightS s:=by
 have hl:s.data.toList.length=s.size:=rfl
 unfold rightS X.rightB X.sealB
 rw [hl,decide_eq_true h,Bool.true_and,Bool.eq_iff_iff,beq_iff_eq,decide_eq_true_iff,extract_list,Lib.toList_data,Lib.toList_data]
 have e:(s.extract (s.size - 2) s.size).data.toList=s.data.toList.drop (s.size - 2):=by
  rw [ByteArray.data_extract,Array.toList_extract]
  simp only [List.extract_eq_take_drop]
  exact List.take_of_length_le (by simp)
 rw [e]
 show _=X.twoB _↔_
 constructor
 ·
  intro k
  rw [← k,List.take_append_drop]
 ·
  intro k
  have:=(List.take_append_drop (s.size - 2) s.data.toList).trans k.symm
  exact List.append_cancel_left this
set_option maxHeartbeats 1600000 in
theorem cright_short (s:ByteArray) (w:World) (hs:s.size≤4611686018427387904) (h:s.size < 2):Calls Try.prog 15 #[.string s] w (PVal (.bool false) w):=by
 go_enter Try.func15,Try.ntmps15
 go_wp2
 refine wp_region_vals 13 [some 7,some 8,some 9,some 10,some 11,some 12,some 13,some 14,some 15,some 16,some 17,some 18,some 2] (lstV [.int .i64 ((s.size:Int) - 2),.bool false,.bool false,undef,undef,undef,undef,undef,undef,undef,undef,.bool false,.bool false]) (fun W=>Below w.heap.size w W) (by kernel_rfl) (by kernel_rfl) (by decide) ((Below.refl _ _).drew) ?_ ?_
 ·
  intro i hl hi u W hJ hd
  obtain rfl | rfl | rfl | rfl | rfl | rfl | rfl | rfl | rfl | rfl | rfl | rfl | rfl:i=0∨i=1∨i=2∨i=3∨i=4∨i=5∨i=6∨i=7∨i=8∨i=9∨i=10∨i=11∨i=12:=by omega
  ·
   clear hd
   simp only [zzA,zzB]
   clear hl
   refine .inr ⟨rfl,fun K' hK=>?_⟩
   have HK:=Lib.hid hK
   clear hK
   simp only [layS,Act.put,zzC,zzD,zzE,Nat.zero_add,Nat.reduceAdd]
   go_simp
   exact HK.out _ _ (by simp [layS,updV,lstV,Act.put]) hJ
  ·
   have e0:u 0=.int .i64 ((s.size:Int) - 2):=hd 0 (by kernel_rfl)
   clear hd
   simp only [zzA,zzB]
   clear hl
   refine .inr ⟨rfl,fun K' hK=>?_⟩
   have HK:=Lib.hid hK
   clear hK
   simp only [layS,Act.put,zzC,zzD,zzE,Nat.zero_add,Nat.reduceAdd,e0]
   have E0:=Lib.hid e0
   clear e0
   go_simp
   exact HK.out _ _ (by simp [layS,updV,lstV,Act.put,E0.out]; omega) hJ
  ·
   have e1:u 1=.bool false:=hd 1 (by kernel_rfl)
   clear hd
   simp only [zzA,zzB]
   clear hl
   refine .inr ⟨rfl,fun K' hK=>?_⟩
   have HK:=Lib.hid hK
   clear hK
   simp only [layS,Act.put,zzC,zzD,zzE,Nat.zero_add,Nat.reduceAdd,e1]
   have E1:=Lib.hid e1
   clear e1
   go_simp
   exact HK.out _ _ (by simp [layS,updV,lstV,Act.put,E1.out]) hJ
  ·
   have e2:u 2=.bool false:=hd 2 (by kernel_rfl)
   clear hd
   simp only [zzA,zzB]
   clear hl
   refine .inl ⟨?_,?_⟩
   ·
    simp [Region.wanted,yielded,layS,Act.put,e2]
   ·
    simp [layS,updV,lstV,Act.put]
  ·
   have e2:u 2=.bool false:=hd 2 (by kernel_rfl)
   clear hd
   simp only [zzA,zzB]
   clear hl
   refine .inl ⟨?_,?_⟩
   ·
    simp [Region.wanted,yielded,layS,Act.put,e2]
   ·
    simp [layS,updV,lstV,Act.put]
  ·
   have e2:u 2=.bool false:=hd 2 (by kernel_rfl)
   have e3:u 3=undef:=hd 3 (by kernel_rfl)
   have e4:u 4=undef:=hd 4 (by kernel_rfl)
   clear hd
   simp only [zzA,zzB]
   clear hl
   refine .inl ⟨?_,?_⟩
   ·
    simp [Region.wanted,yielded,layS,Act.put,e2,e3,e4]
   ·
    simp [layS,updV,lstV,Act.put]
  ·
   have e2:u 2=.bool false:=hd 2 (by kernel_rfl)
   clear hd
   simp only [zzA,zzB]
   clear hl
   refine .inl ⟨?_,?_⟩
   ·
    simp [Region.wanted,yielded,layS,Act.put,e2]
   ·
    simp [layS,updV,lstV,Act.put]
  ·
   have e2:u 2=.bool false:=hd 2 (by kernel_rfl)
   clear hd
   simp only [zzA,zzB]
   clear hl
   refine .inl ⟨?_,?_⟩
   ·
    simp [Region.wanted,yielded,layS,Act.put,e2]
   ·
    simp [layS,updV,lstV,Act.put]
  ·
   have e2:u 2=.bool false:=hd 2 (by kernel_rfl)
   have e6:u 6=undef:=hd 6 (by kernel_rfl)
   have e7:u 7=undef:=hd 7 (by kernel_rfl)
   clear hd
   simp only [zzA,zzB]
   clear hl
   refine .inl ⟨?_,?_⟩
   ·
    simp [Region.wanted,yielded,layS,Act.put,e2,e6,e7]
   ·
    simp [layS,updV,lstV,Act.put]
  ·
   have e2:u 2=.bool false:=hd 2 (by kernel_rfl)
   have e8:u 8=undef:=hd 8 (by kernel_rfl)
   clear hd
   simp only [zzA,zzB]
   clear hl
   refine .inl ⟨?_,?_⟩
   ·
    simp [Region.wanted,yielded,layS,Act.put,e2,e8]
   ·
    simp [layS,updV,lstV,Act.put]
  ·
   have e2:u 2=.bool false:=hd 2 (by kernel_rfl)
   have e5:u 5=undef:=hd 5 (by kernel_rfl)
   have e9:u 9=undef:=hd 9 (by kernel_rfl)
   clear hd
   simp only [zzA,zzB]
   clear hl
   refine .inl ⟨?_,?_⟩
   ·
    simp [Region.wanted,yielded,layS,Act.put,e2,e5,e9]
   ·
    simp [layS,updV,lstV,Act.put]
  ·
   have e2:u 2=.bool false:=hd 2 (by kernel_rfl)
   have e10:u 10=undef:=hd 10 (by kernel_rfl)
   clear hd
   simp only [zzA,zzB]
   clear hl
   refine .inr ⟨rfl,fun K' hK=>?_⟩
   have HK:=Lib.hid hK
   clear hK
   simp only [layS,Act.put,zzC,zzD,zzE,Nat.zero_add,Nat.reduceAdd,e2,e10]
   have E2:=Lib.hid e2
   have E10:=Lib.hid e10
   clear e2 e10
   go_simp
   exact HK.out _ _ (by simp [layS,updV,lstV,Act.put,E2.out,E10.out]) hJ
  ·
   have e11:u 11=.bool false:=hd 11 (by kernel_rfl)
   clear hd
   simp only [zzA,zzB]
   clear hl
   refine .inr ⟨rfl,fun K' hK=>?_⟩
   have HK:=Lib.hid hK
   clear hK
   simp only [layS,Act.put,zzC,zzD,zzE,Nat.zero_add,Nat.reduceAdd,e11]
   have E11:=Lib.hid e11
   clear e11
   go_simp
   exact HK.out _ _ (by simp [layS,updV,lstV,Act.put,E11.out]) hJ
 intro W hJ
 simp only [layS,lstV,Act.put,zzC,zzD,zzE,Nat.zero_add,Nat.reduceAdd,List.getD_cons_zero,List.getD_cons_succ,List.drop_succ_cons,List.drop_zero,List.drop_nil]
 go_wp2
 go_ret
 exact ⟨rfl,hJ⟩
set_option maxHeartbeats 1600000 in
theorem cright_long (s t:ByteArray) (b:Bool) (w:World) (hs:s.size≤4611686018427387904) (h:2≤s.size) (htl:∀ W,Calls Try.prog 19 #[.string (s.extract 0 (s.size - 2))] W (PVal (.string t) W)) (hb:((s.extract (s.size - 2) s.size).toList == t.toList)=b):Calls Try.prog 15 #[.string s] w (PVal (.bool b) w):=by
 have HC:=Lib.hid htl
 clear htl
 go_enter Try.func15,Try.ntmps15
 go_wp2
 refine wp_region_vals 13 [some 7,some 8,some 9,some 10,some 11,some 12,some 13,some 14,some 15,some 16,some 17,some 18,some 2] (lstV [.int .i64 ((s.size:Int) - 2),.bool true,.bool true,.string s,.int .i64 ((s.size:Int) - 2),.string (s.extract (s.size - 2) s.size),.string s,.int .i64 ((s.size:Int) - 2),.string (s.extract 0 (s.size - 2)),.string t,.bool b,.bool b,.bool b]) (fun W=>Below w.heap.size w W) (by kernel_rfl) (by kernel_rfl) (by decide) ((Below.refl _ _).drew) ?_ ?_
 ·
  intro i hl hi u W hJ hd
  obtain rfl | rfl | rfl | rfl | rfl | rfl | rfl | rfl | rfl | rfl | rfl | rfl | rfl:i=0∨i=1∨i=2∨i=3∨i=4∨i=5∨i=6∨i=7∨i=8∨i=9∨i=10∨i=11∨i=12:=by omega
  ·
   clear hd
   simp only [zzA,zzB]
   clear hl
   refine .inr ⟨rfl,fun K' hK=>?_⟩
   have HK:=Lib.hid hK
   clear hK
   simp only [layS,Act.put,zzC,zzD,zzE,Nat.zero_add,Nat.reduceAdd]
   go_simp
   exact HK.out _ _ (by simp [layS,updV,lstV,Act.put]) hJ
  ·
   have e0:u 0=.int .i64 ((s.size:Int) - 2):=hd 0 (by kernel_rfl)
   clear hd
   simp only [zzA,zzB]
   clear hl
   refine .inr ⟨rfl,fun K' hK=>?_⟩
   have HK:=Lib.hid hK
   clear hK
   simp only [layS,Act.put,zzC,zzD,zzE,Nat.zero_add,Nat.reduceAdd,e0]
   have E0:=Lib.hid e0
   clear e0
   go_simp
   exact HK.out _ _ (by simp [layS,updV,lstV,Act.put,E0.out]; omega) hJ
  ·
   have e1:u 1=.bool true:=hd 1 (by kernel_rfl)
   clear hd
   simp only [zzA,zzB]
   clear hl
   refine .inr ⟨rfl,fun K' hK=>?_⟩
   have HK:=Lib.hid hK
   clear hK
   simp only [layS,Act.put,zzC,zzD,zzE,Nat.zero_add,Nat.reduceAdd,e1]
   have E1:=Lib.hid e1
   clear e1
   go_simp
   exact HK.out _ _ (by simp [layS,updV,lstV,Act.put,E1.out]) hJ
  ·
   have e2:u 2=.bool true:=hd 2 (by kernel_rfl)
   clear hd
   simp only [zzA,zzB]
   clear hl
   refine .inr ⟨?_,fun K' hK=>?_⟩
   ·
    simp [Region.wanted,yielded,layS,Act.put,e2]
   have HK:=Lib.hid hK
   clear hK
   simp only [layS,Act.put,zzC,zzD,zzE,Nat.zero_add,Nat.reduceAdd,e2]
   have E2:=Lib.hid e2
   clear e2
   go_simp
   exact HK.out _ _ (by simp [layS,updV,lstV,Act.put,E2.out]) hJ
  ·
   have e2:u 2=.bool true:=hd 2 (by kernel_rfl)
   clear hd
   simp only [zzA,zzB]
   clear hl
   refine .inr ⟨?_,fun K' hK=>?_⟩
   ·
    simp [Region.wanted,yielded,layS,Act.put,e2]
   have HK:=Lib.hid hK
   clear hK
   simp only [layS,Act.put,zzC,zzD,zzE,Nat.zero_add,Nat.reduceAdd,e2]
   have E2:=Lib.hid e2
   clear e2
   go_simp
   exact HK.out _ _ (by simp [layS,updV,lstV,Act.put,E2.out]) hJ
  ·
   have e2:u 2=.bool true:=hd 2 (by kernel_rfl)
   have e3:u 3=.string s:=hd 3 (by kernel_rfl)
   have e4:u 4=.int .i64 ((s.size:Int) - 2):=hd 4 (by kernel_rfl)
   clear hd
   simp only [zzA,zzB]
   clear hl
   refine .inr ⟨?_,fun K' hK=>?_⟩
   ·
    simp [Region.wanted,yielded,layS,Act.put,e2,e3,e4]
   have HK:=Lib.hid hK
   clear hK
   simp only [layS,Act.put,zzC,zzD,zzE,Nat.zero_add,Nat.reduceAdd,e2,e3,e4]
   have E2:=Lib.hid e2
   have E3:=Lib.hid e3
   have E4:=Lib.hid e4
   clear e2 e3 e4
   have hle:(s.size - 2)≤s.size:=by omega
   have hz:((s.size:Int) - 2).toNat=s.size - 2:=by omega
   go_simp
   rw [if_pos (by omega)]
   exact HK.out _ _ (by simp [layS,updV,lstV,Act.put,E2.out,E3.out,E4.out]) hJ
  ·
   have e2:u 2=.bool true:=hd 2 (by kernel_rfl)
   clear hd
   simp only [zzA,zzB]
   clear hl
   refine .inr ⟨?_,fun K' hK=>?_⟩
   ·
    simp [Region.wanted,yielded,layS,Act.put,e2]
   have HK:=Lib.hid hK
   clear hK
   simp only [layS,Act.put,zzC,zzD,zzE,Nat.zero_add,Nat.reduceAdd,e2]
   have E2:=Lib.hid e2
   clear e2
   go_simp
   exact HK.out _ _ (by simp [layS,updV,lstV,Act.put,E2.out]) hJ
  ·
   have e2:u 2=.bool true:=hd 2 (by kernel_rfl)
   clear hd
   simp only [zzA,zzB]
   clear hl
   refine .inr ⟨?_,fun K' hK=>?_⟩
   ·
    simp [Region.wanted,yielded,layS,Act.put,e2]
   have HK:=Lib.hid hK
   clear hK
   simp only [layS,Act.put,zzC,zzD,zzE,Nat.zero_add,Nat.reduceAdd,e2]
   have E2:=Lib.hid e2
   clear e2
   go_simp
   exact HK.out _ _ (by simp [layS,updV,lstV,Act.put,E2.out]) hJ
  ·
   have e2:u 2=.bool true:=hd 2 (by kernel_rfl)
   have e6:u 6=.string s:=hd 6 (by kernel_rfl)
   have e7:u 7=.int .i64 ((s.size:Int) - 2):=hd 7 (by kernel_rfl)
   clear hd
   simp only [zzA,zzB]
   clear hl
   refine .inr ⟨?_,fun K' hK=>?_⟩
   ·
    simp [Region.wanted,yielded,layS,Act.put,e2,e6,e7]
   have HK:=Lib.hid hK
   clear hK
   simp only [layS,Act.put,zzC,zzD,zzE,Nat.zero_add,Nat.reduceAdd,e2,e6,e7]
   have E2:=Lib.hid e2
   have E6:=Lib.hid e6
   have E7:=Lib.hid e7
   clear e2 e6 e7
   have hle:(s.size - 2)≤s.size:=by omega
   have hz:((s.size:Int) - 2).toNat=s.size - 2:=by omega
   go_simp
   rw [if_pos (by omega)]
   exact HK.out _ _ (by simp [layS,updV,lstV,Act.put,E2.out,E6.out,E7.out]) hJ
  ·
   have e2:u 2=.bool true:=hd 2 (by kernel_rfl)
   have e8:u 8=.string (s.extract 0 (s.size - 2)):=hd 8 (by kernel_rfl)
   clear hd
   simp only [zzA,zzB]
   clear hl
   refine .inr ⟨?_,fun K' hK=>?_⟩
   ·
    simp [Region.wanted,yielded,layS,Act.put,e2,e8]
   have HK:=Lib.hid hK
   clear hK
   simp only [layS,Act.put,zzC,zzD,zzE,Nat.zero_add,Nat.reduceAdd,e2,e8]
   have E2:=Lib.hid e2
   have E8:=Lib.hid e8
   clear e2 e8
   go_simp
   refine (HC.out _).mono ?_
   rintro e W' ⟨rfl,hB⟩
   exact HK.out _ _ (by simp [layS,updV,lstV,Act.put,E2.out,E8.out]) (hJ.trans (hB.mono hJ.size))
  ·
   have e2:u 2=.bool true:=hd 2 (by kernel_rfl)
   have e5:u 5=.string (s.extract (s.size - 2) s.size):=hd 5 (by kernel_rfl)
   have e9:u 9=.string t:=hd 9 (by kernel_rfl)
   clear hd
   simp only [zzA,zzB]
   clear hl
   refine .inr ⟨?_,fun K' hK=>?_⟩
   ·
    simp [Region.wanted,yielded,layS,Act.put,e2,e5,e9]
   have HK:=Lib.hid hK
   clear hK
   simp only [layS,Act.put,zzC,zzD,zzE,Nat.zero_add,Nat.reduceAdd,e2,e5,e9]
   have E2:=Lib.hid e2
   have E5:=Lib.hid e5
   have E9:=Lib.hid e9
   clear e2 e5 e9
   go_simp
   exact HK.out _ _ (by simp [layS,updV,lstV,Act.put,E2.out,E5.out,E9.out]) hJ
  ·
   have e2:u 2=.bool true:=hd 2 (by kernel_rfl)
   have e10:u 10=.bool b:=hd 10 (by kernel_rfl)
   clear hd
   simp only [zzA,zzB]
   clear hl
   refine .inr ⟨rfl,fun K' hK=>?_⟩
   have HK:=Lib.hid hK
   clear hK
   simp only [layS,Act.put,zzC,zzD,zzE,Nat.zero_add,Nat.reduceAdd,e2,e10]
   have E2:=Lib.hid e2
   have E10:=Lib.hid e10
   clear e2 e10
   go_simp
   exact HK.out _ _ (by simp [layS,updV,lstV,Act.put,E2.out,E10.out]) hJ
  ·
   have e11:u 11=.bool b:=hd 11 (by kernel_rfl)
   clear hd
   simp only [zzA,zzB]
   clear hl
   refine .inr ⟨rfl,fun K' hK=>?_⟩
   have HK:=Lib.hid hK
   clear hK
   simp only [layS,Act.put,zzC,zzD,zzE,Nat.zero_add,Nat.reduceAdd,e11]
   have E11:=Lib.hid e11
   clear e11
   go_simp
   exact HK.out _ _ (by simp [layS,updV,lstV,Act.put,E11.out]) hJ
 intro W hJ
 simp only [layS,lstV,Act.put,zzC,zzD,zzE,Nat.zero_add,Nat.reduceAdd,List.getD_cons_zero,List.getD_cons_succ,List.drop_succ_cons,List.drop_zero,List.drop_nil]
 go_wp2
 go_ret
 exact ⟨rfl,hJ⟩
theorem cright_any (s:ByteArray) (w:World) (hs:s.size≤4611686018427387900):Calls Try.prog 15 #[.string s] w (PVal (.bool (rightS s)) w):=by
 by_cases h:s.size < 2
 ·
  rw [right_short h]
  exact cright_short s w (by omega) h
 ·
  exact cright_long s _ _ w (by omega) (by omega) (fun W=>ctail_any _ W (by simp; omega)) (tail_right (by omega))
theorem cof_at (s:ByteArray) (z:Int) (w:World) (hs:s.size≤4611686018427387904) (hz:z=(X.csB 65535 s.data.toList:Nat)):Calls Try.prog 11 #[.string s] w (PVal (.int .u16 z) w):=by
 rw [hz]; exact cof_any s w hs
theorem cseal_at (s t:ByteArray) (w:World) (hs:s.size≤4611686018427387904) (ht:sealS s=t):Calls Try.prog 14 #[.string s] w (PVal (.string t) w):=by
 rw [← ht]; exact cseal_any s w hs
theorem cright_at (s:ByteArray) (b:Bool) (w:World) (hs:s.size≤4611686018427387900) (hb:rightS s=b):Calls Try.prog 15 #[.string s] w (PVal (.bool b) w):=by
 rw [← hb]; exact cright_any s w hs
set_option maxRecDepth 100000 in
theorem cv1:(10673:Int)=(X.csB 65535 [49,50,51,52,53,54,55,56,57]:Nat):=by decide +kernel
theorem cv2:sealS ⟨#[97]⟩=⟨#[97,157,119]⟩:=by kernel_rfl
set_option maxRecDepth 100000 in
set_option maxHeartbeats 1600000 in
theorem cawake_any (w:World):Calls Try.prog 9 #[] w (PVal (.bool true) w):=by
 have H1:=Lib.hid (fun W=>cof_at ⟨#[49,50,51,52,53,54,55,56,57]⟩ 10673 W (by decide) cv1)
 have H2:=Lib.hid (fun W=>cof_at ⟨#[]⟩ 65535 W (by decide) rfl)
 have H3:=Lib.hid (fun W=>cseal_at ⟨#[97]⟩ _ W (by decide) cv2)
 have H4:=Lib.hid (fun W=>cright_at ⟨#[97,157,119]⟩ true W (by decide) (by decide +kernel))
 have H5:=Lib.hid (fun W=>cright_at ⟨#[]⟩ false W (by decide) (by decide +kernel))
 have H6:=Lib.hid (fun W=>cright_at ⟨#[97,98]⟩ false W (by decide) (by decide +kernel))
 have H7:=Lib.hid (fun W=>cright_at ⟨#[255,255]⟩ true W (by decide) (by decide +kernel))
 go_enter Try.func9,Try.ntmps9
 go_wp2_with fail
 refine (H1.out _).mono ?_
 rintro e W1 ⟨rfl,hB⟩
 go_wp2_with fail
 refine (H2.out _).mono ?_
 rintro e W2 ⟨rfl,hC⟩
 replace hB:=hB.trans (hC.mono hB.size)
 clear hC
 go_wp2_with fail
 refine (H3.out _).mono ?_
 rintro e W3 ⟨rfl,hC⟩
 replace hB:=hB.trans (hC.mono hB.size)
 clear hC
 go_wp2_with fail
 refine (H4.out _).mono ?_
 rintro e W4 ⟨rfl,hC⟩
 replace hB:=hB.trans (hC.mono hB.size)
 clear hC
 go_wp2_with fail
 refine (H5.out _).mono ?_
 rintro e W5 ⟨rfl,hC⟩
 replace hB:=hB.trans (hC.mono hB.size)
 clear hC
 go_wp2_with fail
 refine (H6.out _).mono ?_
 rintro e W6 ⟨rfl,hC⟩
 replace hB:=hB.trans (hC.mono hB.size)
 clear hC
 go_wp2_with fail
 refine (H7.out _).mono ?_
 rintro e W7 ⟨rfl,hC⟩
 replace hB:=hB.trans (hC.mono hB.size)
 clear hC
 go_wp2
 go_ret
 exact ⟨rfl,hB⟩
set_option maxRecDepth 100000 in
set_option maxHeartbeats 1600000 in
theorem CrcSums_w (z a b:Int) (s:ByteArray) (w:World) (z0:0≤z∧z < 65536) (a0:0≤a∧a < 65536) (b0:0≤b∧b < 65536)
  (hA:∀ W:World,Calls Try.prog 9 #[] W (PVal (.bool true) W))
  (hB:∀ W:World,Calls Try.prog 10 #[.int .u16 z,.string s] W (PVal (.int .u16 a) W))
  (hC:∀ W:World,Calls Try.prog 11 #[.string s] W (PVal (.int .u16 b) W))
  (hD:∀ W:World,Calls Try.prog 12 #[.int .i64 z,.string s] W (PEq (.int .i64 a) W))
  (hE:∀ W:World,Calls Try.prog 13 #[.string s] W (PEq (.int .i64 b) W)) :
  Calls Try.prog 3 #[.int .u16 z,.string s] w (PVal (.bool true) w):=by
 have A:=Lib.hid hA
 have B:=Lib.hid hB
 have C:=Lib.hid hC
 have D:=Lib.hid hD
 have E:=Lib.hid hE
 clear hA hB hC hD hE
 have hB:=Below.refl w.heap.size w
 go_enter Try.func3,Try.ntmps3
 go_wp2_with fail
 refine (A.out _).mono ?_
 rintro e0 Z0 ⟨rfl,hC⟩
 replace hB:=hB.trans (hC.mono hB.size)
 clear hC
 go_wp2_with fail
 refine (B.out _).mono ?_
 rintro e1 Z1 ⟨rfl,hC⟩
 replace hB:=hB.trans (hC.mono hB.size)
 clear hC
 go_wp2_with fail
 refine (C.out _).mono ?_
 rintro e2 Z2 ⟨rfl,hC⟩
 replace hB:=hB.trans (hC.mono hB.size)
 clear hC
 go_wp2_with fail
 refine (D.out _).mono ?_
 rintro e3 Z3 ⟨rfl,rfl⟩
 go_wp2_with fail
 refine (E.out _).mono ?_
 rintro e4 Z4 ⟨rfl,rfl⟩
 go_wp2
 go_ret
 exact ⟨rfl,hB⟩
theorem CrcSums_any (z:Int) (s:ByteArray) (w:World) (h0:0≤z) (h1:z≤65535) (hs:s.size≤140737488355328):Calls Try.prog 3 #[.int .u16 z,.string s] w (PVal (.bool true) w):=by
 obtain ⟨n,rfl⟩:=Int.eq_ofNat_of_zero_le h0
 have hn:n < 65536:=by omega
 have l1:=X.csB_lt s.data.toList hn
 have l2:=X.csB_lt s.data.toList (show 65535 < 65536 by decide)
 exact CrcSums_w _ _ _ s w (by omega) (by omega) (by omega) cawake_any (fun W=>cmore_any n s _ W hn rfl (by omega)) (fun W=>cof_any s W (by omega)) (fun W=>rmore_any n s _ W hn rfl (by omega)) (fun W=>rof_any s W (by omega))
set_option maxRecDepth 100000 in
set_option maxHeartbeats 1600000 in
theorem CrcSeals_w (s u:ByteArray) (b:Bool) (w:World) 
  (hA:∀ W:World,Calls Try.prog 9 #[] W (PVal (.bool true) W))
  (hB:∀ W:World,Calls Try.prog 14 #[.string s] W (PVal (.string u) W))
  (hC:∀ W:World,Calls Try.prog 15 #[.string s] W (PVal (.bool b) W))
  (hD:∀ W:World,Calls Try.prog 15 #[.string u] W (PVal (.bool true) W))
  (hE:∀ W:World,Calls Try.prog 16 #[.string s] W (PVal (.string u) W))
  (hF:∀ W:World,Calls Try.prog 17 #[.string s] W (PVal (.bool b) W)) :
  Calls Try.prog 4 #[.string s] w (PVal (.bool true) w):=by
 have A:=Lib.hid hA
 have B:=Lib.hid hB
 have C:=Lib.hid hC
 have D:=Lib.hid hD
 have E:=Lib.hid hE
 have F:=Lib.hid hF
 clear hA hB hC hD hE hF
 have hB:=Below.refl w.heap.size w
 go_enter Try.func4,Try.ntmps4
 go_wp2_with fail
 refine (A.out _).mono ?_
 rintro e0 Z0 ⟨rfl,hC⟩
 replace hB:=hB.trans (hC.mono hB.size)
 clear hC
 go_wp2_with fail
 refine (B.out _).mono ?_
 rintro e1 Z1 ⟨rfl,hC⟩
 replace hB:=hB.trans (hC.mono hB.size)
 clear hC
 go_wp2_with fail
 refine (C.out _).mono ?_
 rintro e2 Z2 ⟨rfl,hC⟩
 replace hB:=hB.trans (hC.mono hB.size)
 clear hC
 go_wp2_with fail
 refine (D.out _).mono ?_
 rintro e3 Z3 ⟨rfl,hC⟩
 replace hB:=hB.trans (hC.mono hB.size)
 clear hC
 go_wp2_with fail
 refine (E.out _).mono ?_
 rintro e4 Z4 ⟨rfl,hC⟩
 replace hB:=hB.trans (hC.mono hB.size)
 clear hC
 go_wp2_with fail
 refine (F.out _).mono ?_
 rintro e5 Z5 ⟨rfl,hC⟩
 replace hB:=hB.trans (hC.mono hB.size)
 clear hC
 go_wp2
 go_ret
 exact ⟨rfl,hB⟩
theorem seal_right (s:ByteArray):rightS (sealS s)=true:=by
 unfold rightS
 rw [X.right_iff]
 show (decide (2≤(X.sealB s.data.toList).length) && decide (X.csB 65535 (X.sealB s.data.toList)=0))=true
 rw [X.seal_len,X.seal_zero,decide_eq_true (by omega)]
 rfl
theorem CrcSeals_any (s:ByteArray) (w:World) (hs:s.size≤140737488355328):Calls Try.prog 4 #[.string s] w (PVal (.bool true) w) :=
 CrcSeals_w s (sealS s) (rightS s) w cawake_any (fun W=>cseal_any s W (by omega)) (fun W=>cright_any s W (by omega)) (fun W=>cright_at _ _ W (by rw [seal_size]; omega) (seal_right s)) (fun W=>rseal_any s W (by omega)) (fun W=>rright_any s W (by omega))
set_option maxRecDepth 100000 in
set_option maxHeartbeats 1600000 in
theorem CrcGoesOn_w (z y a b c d:Int) (s u:ByteArray) (e f:Bool) (w:World) (hs:s.size≤140737488355328) (hu:u.size≤140737488355328) (h1:(c == d)=e) (h2:(z == y)=e)
  (hA:∀ W:World,Calls Try.prog 9 #[] W (PVal (.bool true) W))
  (hB:∀ W:World,Calls Try.prog 10 #[.int .u16 z,.string (s++u)] W (PVal (.int .u16 b) W))
  (hC:∀ W:World,Calls Try.prog 10 #[.int .u16 z,.string s] W (PVal (.int .u16 c) W))
  (hD:∀ W:World,Calls Try.prog 10 #[.int .u16 c,.string u] W (PVal (.int .u16 b) W))
  (hE:∀ W:World,Calls Try.prog 10 #[.int .u16 y,.string s] W (PVal (.int .u16 d) W)) :
  Calls Try.prog 5 #[.int .u16 z,.int .u16 y,.string s,.string u] w (PVal (.bool true) w):=by
 have A:=Lib.hid hA
 have B:=Lib.hid hB
 have C:=Lib.hid hC
 have D:=Lib.hid hD
 have E:=Lib.hid hE
 clear hA hB hC hD hE
 have hB:=Below.refl w.heap.size w
 go_enter Try.func5,Try.ntmps5
 go_wp2_with fail
 refine (A.out _).mono ?_
 rintro e0 Z0 ⟨rfl,hC⟩
 replace hB:=hB.trans (hC.mono hB.size)
 clear hC
 go_wp2_with fail
 refine (B.out _).mono ?_
 rintro e1 Z1 ⟨rfl,hC⟩
 replace hB:=hB.trans (hC.mono hB.size)
 clear hC
 go_wp2_with fail
 refine (C.out _).mono ?_
 rintro e2 Z2 ⟨rfl,hC⟩
 replace hB:=hB.trans (hC.mono hB.size)
 clear hC
 go_wp2_with fail
 refine (D.out _).mono ?_
 rintro e3 Z3 ⟨rfl,hC⟩
 replace hB:=hB.trans (hC.mono hB.size)
 clear hC
 go_wp2_with fail
 refine (C.out _).mono ?_
 rintro e4 Z4 ⟨rfl,hC⟩
 replace hB:=hB.trans (hC.mono hB.size)
 clear hC
 go_wp2_with fail
 refine (E.out _).mono ?_
 rintro e5 Z5 ⟨rfl,hC⟩
 replace hB:=hB.trans (hC.mono hB.size)
 clear hC
 go_wp2
 go_ret
 exact ⟨rfl,hB⟩
theorem CrcGoesOn_any (z y:Int) (s u:ByteArray) (w:World) (h0:0≤z) (h1:z≤65535) (h2:0≤y) (h3:y≤65535) (hs:s.size≤140737488355328) (hu:u.size≤140737488355328):Calls Try.prog 5 #[.int .u16 z,.int .u16 y,.string s,.string u] w (PVal (.bool true) w):=by
 obtain ⟨n,rfl⟩:=Int.eq_ofNat_of_zero_le h0
 obtain ⟨m,rfl⟩:=Int.eq_ofNat_of_zero_le h2
 have hn:n < 65536:=by omega
 have hm:m < 65536:=by omega
 have l1:=X.csB_lt s.data.toList hn
 have ea:(s++u).data.toList=s.data.toList++u.data.toList:=by rw [ByteArray.data_append,Array.toList_append]
 have e1:X.csB n (s++u).data.toList=X.csB (X.csB n s.data.toList) u.data.toList:=by rw [ea,X.csB_append]
 refine CrcGoesOn_w n m 0 _ _ _ s u (decide (n=m)) true w hs hu ?_ ?_ cawake_any (fun W=>cmore_any n (s++u) _ W hn rfl (by rw [ByteArray.size_append]; omega)) (fun W=>cmore_any n s _ W hn rfl (by omega)) (fun W=>by rw [e1]; exact cmore_any _ u _ W l1 rfl (by omega)) (fun W=>cmore_any m s _ W hm rfl (by omega))
 ·
  rw [Bool.eq_iff_iff,beq_iff_eq,decide_eq_true_iff]
  constructor
  ·
   intro e
   exact X.csB_inj hn hm (by exact_mod_cast e)
  ·
   intro e; rw [e]
 ·
  rw [Bool.eq_iff_iff,beq_iff_eq,decide_eq_true_iff]
  exact ⟨fun e=>by exact_mod_cast e,fun e=>by rw [e]⟩
set_option maxRecDepth 100000 in
set_option maxHeartbeats 1600000 in
theorem CrcTells_in (s t:ByteArray) (z pt:Int) (a pn:Nat) (w:World) (hA:∀ W,Calls Try.prog 9 #[] W (PVal (.bool true) W)) (hS:∀ W,Calls Try.prog 14 #[.string s] W (PVal (.string t) W)) (ha:z=(a:Nat)) (hpt:pt=(pn:Nat)) (hpn:pn < 65536) (h0:0≤z) (h1:z < 8*(t.size:Int)) (ht:t.size≤281474976710656) (h2:2≤t.size) (hz0:X.csB 65535 t.data.toList=0) :
  Calls Try.prog 6 #[.string s,.int .i64 z,.int .u16 pt] w (PVal (.bool true) w):=by
 have HA:=Lib.hid hA
 have HS:=Lib.hid hS
 have Ha:=Lib.hid ha
 have Hpt:=Lib.hid hpt
 have hptb:0≤pt∧pt < 65536:=by omega
 have H2:=Lib.hid h2
 have H0:=Lib.hid hz0
 clear hA hS ha hpt h2 hz0
 have hB:=Below.refl w.heap.size w
 go_enter Try.func6,Try.ntmps6
 go_wp2_with fail
 refine (HA.out _).mono ?_
 rintro e0 Z0 ⟨rfl,hC⟩
 replace hB:=hB.trans (hC.mono hB.size)
 clear hC
 go_wp2_with fail
 refine (HS.out _).mono ?_
 rintro e1 Z1 ⟨rfl,hC⟩
 replace hB:=hB.trans (hC.mono hB.size)
 clear hC
 have e1:decide (z < 0)=false:=decide_eq_false (by omega)
 have e2:decide (8*(t.size:Int)≤z)=false:=decide_eq_false (by omega)
 go_wp2_with (refine zso rfl (fun K hK=>wp_cvb (.tmp 26) rfl rfl (fun g c W1 hg hc HBY hB2=>hK _ _ ?_)))
 simp only [Stop,Act.put,zzC,zzD,zzE]
 have hB1:=hB.trans (hB2.mono hB.size)
 have hgw:w.heap.size≤g:=Nat.le_trans hB.size hg
 clear hB2 hB
 obtain ⟨f,hf⟩:∃ f,f=byA t:=⟨_,rfl⟩
 rw [← hf] at HBY
 have Hf:=Lib.hid hf
 clear hf
 obtain ⟨p,hp⟩:∃ p,p=patB pn:=⟨_,rfl⟩
 have Hp:=Lib.hid hp
 clear hp
 go_wp2
 go_loopw [10,11] (fun tv iv wr=>∃ i:Nat,(i≤16∧z+(i:Int)≤8*(t.size:Int))∧iv=.int .i64 i∧tv=.bool (anyN p i)∧Byt wr g t.size (X.turnN f a p i)∧Below w.heap.size w wr) (fun _ iv _=>16 - (intOf iv).toNat)
 case atStart=>exact ⟨0,by omega,rfl,rfl,HBY,hB1⟩
 case round =>
  obtain ⟨i,⟨hi,hiN⟩,rfl,rfl,hby,hbl⟩:=hrel
  clear HBY hB1
  by_cases h16:i < 16
  ·
   by_cases hin:z+(i:Int) < 8*(t.size:Int)
   ·
    have d2:decide (z+(i:Int) < 8*(t.size:Int))=true:=decide_eq_true hin
    have hsh:bits .and .u16 (pt / 2 ^ (15 - i)) 1=if p i then 1 else 0:=by rw [Hpt.out,Hp.out]; exact shr_bit hpn (by omega)
    cases hp:p i
    ·
     have HP:=Lib.hid hp
     rw [hp] at hsh
     simp only [Bool.false_eq_true,if_false] at hsh
     clear hp
     go_wp2
     go_roundw
     case rel=>exact ⟨i+1,⟨by omega,by omega⟩,by go_num,by show _=Value.bool (anyN p i || p i); rw [HP.out,Bool.or_false],by rw [turnN_no HP.out]; exact hby,hbl⟩
     case measure=>simp [intOf]; omega
    ·
     have HP:=Lib.hid hp
     rw [hp] at hsh
     simp only [if_true] at hsh
     clear hp
     obtain ⟨q,hq⟩:∃ q:Nat,q=(a+i) / 8:=⟨_,rfl⟩
     obtain ⟨r,hr⟩:∃ r:Nat,r=(a+i) % 8:=⟨_,rfl⟩
     have hz:=Ha.out
     have hqN:q < t.size:=by omega
     have hq1:(z+(i:Int)) / 8=(q:Nat):=by omega
     have hq2:(z+(i:Int)).tdiv 8=(q:Nat):=by rw [Int.tdiv_eq_ediv_of_nonneg (by omega)]; omega
     have hr1:(z+(i:Int)) % 8=(r:Nat):=by omega
     have hr2:(z+(i:Int)).tmod 8=(r:Nat):=by rw [Int.tmod_eq_emod_of_nonneg (by omega)]; omega
     have hr8:r < 8:=by omega
     have hw1:IntKind.i64.wrap (z+(i:Int))=z+(i:Int):=IntWalk.i64_in _ ⟨by omega,by omega⟩
     have hw2:IntKind.i64.wrap (q:Int)=(q:Int):=IntWalk.i64_in _ ⟨by omega,by omega⟩
     obtain ⟨F,hF⟩:∃ F,F=X.turnN f a p i:=⟨_,rfl⟩
     rw [← hF] at hby
     have hFl:F q < 256:=by rw [hF]; exact X.turnN_lt (by rw [Hf.out]; exact byA_lt _) a p i q
     obtain ⟨m,hm⟩:∃ m:Int,m=(128 >>> r:Nat):=⟨_,rfl⟩
     have hm1:(128:Int) / 2 ^ r=m:=by rw [hm,Nat.shiftRight_eq_div_pow]; rfl
     have hmb:0≤m∧m < 256:=by rw [hm]; exact ⟨Int.natCast_nonneg _,by exact_mod_cast Nat.lt_of_le_of_lt (Nat.shiftRight_le 128 r) (show 128 < 256 by decide)⟩
     obtain ⟨x,hx⟩:∃ x:Int,x=(F q ^^^ 128 >>> r:Nat):=⟨_,rfl⟩
     have hx1:bits .xor .u8 (F q:Nat) m=x:=by rw [hx,hm]; exact u8_xor_nat _ _ hFl (by have:=Nat.shiftRight_le 128 r; omega)
     have HF:=Lib.hid hF
     have HX:=Lib.hid hx
     have HQ:=Lib.hid hq
     have HR:=Lib.hid hr
     clear hF hx hm hq hr hz
     have hfree:=hby.free hqN
     have hcell:=hby.cell hqN
     go_wp2
     refine wp_region_vals 19 [some 47,some 48,some 49,some 50,some 51,some 52,some 53,some 54,some 55,some 56,some 57,some 58,some 59,some 60,some 61,some 62,some 63,some 64,some 65] (lstV [.slice (some ⟨g,0,none⟩) t.size c,.int .i64 z,.int .i64 (i:Nat),.int .i64 (z+(i:Nat)),.int .i64 (q:Nat),.slice (some ⟨g,0,none⟩) t.size c,.int .i64 z,.int .i64 (i:Nat),.int .i64 (z+(i:Nat)),.int .i64 (q:Nat),.pointer (some ⟨g,q,none⟩),.int .u8 (F q:Nat),.int .i64 z,.int .i64 (i:Nat),.int .i64 (z+(i:Nat)),.int .i64 (r:Nat),.int .u8 m,.int .u8 x,.pointer (some ⟨g,q,none⟩)]) (fun W=>Byt W g t.size F∧Below w.heap.size w W) (by kernel_rfl) (by kernel_rfl) (by decide) (⟨hby.below (Below.refl _ _).drew,hbl.drew⟩) ?_ ?_
     ·
      intro i hl hi u W hJ hd
      obtain rfl | rfl | rfl | rfl | rfl | rfl | rfl | rfl | rfl | rfl | rfl | rfl | rfl | rfl | rfl | rfl | rfl | rfl | rfl:i=0∨i=1∨i=2∨i=3∨i=4∨i=5∨i=6∨i=7∨i=8∨i=9∨i=10∨i=11∨i=12∨i=13∨i=14∨i=15∨i=16∨i=17∨i=18:=by omega
      ·
       clear hd
       simp only [zzA,zzB]
       clear hl
       refine .inr ⟨rfl,fun K' hK=>?_⟩
       have HK:=Lib.hid hK
       clear hK
       simp only [layS,Act.put,zzC,zzD,zzE,Nat.zero_add,Nat.reduceAdd]
       go_simp
       exact HK.out _ _ (by simp [layS,updV,lstV,Act.put]) hJ
      ·
       clear hd
       simp only [zzA,zzB]
       clear hl
       refine .inr ⟨rfl,fun K' hK=>?_⟩
       have HK:=Lib.hid hK
       clear hK
       simp only [layS,Act.put,zzC,zzD,zzE,Nat.zero_add,Nat.reduceAdd]
       go_simp
       exact HK.out _ _ (by simp [layS,updV,lstV,Act.put]) hJ
      ·
       clear hd
       simp only [zzA,zzB]
       clear hl
       refine .inr ⟨rfl,fun K' hK=>?_⟩
       have HK:=Lib.hid hK
       clear hK
       simp only [layS,Act.put,zzC,zzD,zzE,Nat.zero_add,Nat.reduceAdd]
       go_simp
       exact HK.out _ _ (by simp [layS,updV,lstV,Act.put]) hJ
      ·
       have e1:u 1=.int .i64 z:=hd 1 (by kernel_rfl)
       have e2:u 2=.int .i64 (i:Nat):=hd 2 (by kernel_rfl)
       clear hd
       simp only [zzA,zzB]
       clear hl
       refine .inr ⟨rfl,fun K' hK=>?_⟩
       have HK:=Lib.hid hK
       clear hK
       simp only [layS,Act.put,zzC,zzD,zzE,Nat.zero_add,Nat.reduceAdd,e1,e2]
       have E1:=Lib.hid e1
       have E2:=Lib.hid e2
       clear e1 e2
       go_simp
       exact HK.out _ _ (by simp [layS,updV,lstV,Act.put,E1.out,E2.out]) hJ
      ·
       have e3:u 3=.int .i64 (z+(i:Nat)):=hd 3 (by kernel_rfl)
       clear hd
       simp only [zzA,zzB]
       clear hl
       refine .inr ⟨rfl,fun K' hK=>?_⟩
       have HK:=Lib.hid hK
       clear hK
       simp only [layS,Act.put,zzC,zzD,zzE,Nat.zero_add,Nat.reduceAdd,e3]
       have E3:=Lib.hid e3
       clear e3
       go_simp
       exact HK.out _ _ (by simp [layS,updV,lstV,Act.put,E3.out]) hJ
      ·
       clear hd
       simp only [zzA,zzB]
       clear hl
       refine .inr ⟨rfl,fun K' hK=>?_⟩
       have HK:=Lib.hid hK
       clear hK
       simp only [layS,Act.put,zzC,zzD,zzE,Nat.zero_add,Nat.reduceAdd]
       go_simp
       exact HK.out _ _ (by simp [layS,updV,lstV,Act.put]) hJ
      ·
       clear hd
       simp only [zzA,zzB]
       clear hl
       refine .inr ⟨rfl,fun K' hK=>?_⟩
       have HK:=Lib.hid hK
       clear hK
       simp only [layS,Act.put,zzC,zzD,zzE,Nat.zero_add,Nat.reduceAdd]
       go_simp
       exact HK.out _ _ (by simp [layS,updV,lstV,Act.put]) hJ
      ·
       clear hd
       simp only [zzA,zzB]
       clear hl
       refine .inr ⟨rfl,fun K' hK=>?_⟩
       have HK:=Lib.hid hK
       clear hK
       simp only [layS,Act.put,zzC,zzD,zzE,Nat.zero_add,Nat.reduceAdd]
       go_simp
       exact HK.out _ _ (by simp [layS,updV,lstV,Act.put]) hJ
      ·
       have e6:u 6=.int .i64 z:=hd 6 (by kernel_rfl)
       have e7:u 7=.int .i64 (i:Nat):=hd 7 (by kernel_rfl)
       clear hd
       simp only [zzA,zzB]
       clear hl
       refine .inr ⟨rfl,fun K' hK=>?_⟩
       have HK:=Lib.hid hK
       clear hK
       simp only [layS,Act.put,zzC,zzD,zzE,Nat.zero_add,Nat.reduceAdd,e6,e7]
       have E6:=Lib.hid e6
       have E7:=Lib.hid e7
       clear e6 e7
       go_simp
       exact HK.out _ _ (by simp [layS,updV,lstV,Act.put,E6.out,E7.out]) hJ
      ·
       have e8:u 8=.int .i64 (z+(i:Nat)):=hd 8 (by kernel_rfl)
       clear hd
       simp only [zzA,zzB]
       clear hl
       refine .inr ⟨rfl,fun K' hK=>?_⟩
       have HK:=Lib.hid hK
       clear hK
       simp only [layS,Act.put,zzC,zzD,zzE,Nat.zero_add,Nat.reduceAdd,e8]
       have E8:=Lib.hid e8
       clear e8
       go_simp
       exact HK.out _ _ (by simp [layS,updV,lstV,Act.put,E8.out]) hJ
      ·
       have e5:u 5=.slice (some ⟨g,0,none⟩) t.size c:=hd 5 (by kernel_rfl)
       have e9:u 9=.int .i64 (q:Nat):=hd 9 (by kernel_rfl)
       clear hd
       simp only [zzA,zzB]
       clear hl
       refine .inr ⟨rfl,fun K' hK=>?_⟩
       have HK:=Lib.hid hK
       clear hK
       simp only [layS,Act.put,zzC,zzD,zzE,Nat.zero_add,Nat.reduceAdd,e5,e9]
       have E5:=Lib.hid e5
       have E9:=Lib.hid e9
       clear e5 e9
       go_simp
       exact HK.out _ _ (by simp [layS,updV,lstV,Act.put,E5.out,E9.out]) hJ
      ·
       have e10:u 10=.pointer (some ⟨g,q,none⟩):=hd 10 (by kernel_rfl)
       clear hd
       simp only [zzA,zzB]
       clear hl
       refine .inr ⟨rfl,fun K' hK=>?_⟩
       have HK:=Lib.hid hK
       clear hK
       simp only [layS,Act.put,zzC,zzD,zzE,Nat.zero_add,Nat.reduceAdd,e10]
       have E10:=Lib.hid e10
       clear e10
       have hcl:=hJ.1.cell hqN
       go_simp
       exact HK.out _ _ (by simp [layS,updV,lstV,Act.put,E10.out]) hJ
      ·
       clear hd
       simp only [zzA,zzB]
       clear hl
       refine .inr ⟨rfl,fun K' hK=>?_⟩
       have HK:=Lib.hid hK
       clear hK
       simp only [layS,Act.put,zzC,zzD,zzE,Nat.zero_add,Nat.reduceAdd]
       go_simp
       exact HK.out _ _ (by simp [layS,updV,lstV,Act.put]) hJ
      ·
       clear hd
       simp only [zzA,zzB]
       clear hl
       refine .inr ⟨rfl,fun K' hK=>?_⟩
       have HK:=Lib.hid hK
       clear hK
       simp only [layS,Act.put,zzC,zzD,zzE,Nat.zero_add,Nat.reduceAdd]
       go_simp
       exact HK.out _ _ (by simp [layS,updV,lstV,Act.put]) hJ
      ·
       have e12:u 12=.int .i64 z:=hd 12 (by kernel_rfl)
       have e13:u 13=.int .i64 (i:Nat):=hd 13 (by kernel_rfl)
       clear hd
       simp only [zzA,zzB]
       clear hl
       refine .inr ⟨rfl,fun K' hK=>?_⟩
       have HK:=Lib.hid hK
       clear hK
       simp only [layS,Act.put,zzC,zzD,zzE,Nat.zero_add,Nat.reduceAdd,e12,e13]
       have E12:=Lib.hid e12
       have E13:=Lib.hid e13
       clear e12 e13
       go_simp
       exact HK.out _ _ (by simp [layS,updV,lstV,Act.put,E12.out,E13.out]) hJ
      ·
       have e14:u 14=.int .i64 (z+(i:Nat)):=hd 14 (by kernel_rfl)
       clear hd
       simp only [zzA,zzB]
       clear hl
       refine .inr ⟨rfl,fun K' hK=>?_⟩
       have HK:=Lib.hid hK
       clear hK
       simp only [layS,Act.put,zzC,zzD,zzE,Nat.zero_add,Nat.reduceAdd,e14]
       have E14:=Lib.hid e14
       clear e14
       go_simp
       exact HK.out _ _ (by simp [layS,updV,lstV,Act.put,E14.out]) hJ
      ·
       have e15:u 15=.int .i64 (r:Nat):=hd 15 (by kernel_rfl)
       clear hd
       simp only [zzA,zzB]
       clear hl
       refine .inr ⟨rfl,fun K' hK=>?_⟩
       have HK:=Lib.hid hK
       clear hK
       simp only [layS,Act.put,zzC,zzD,zzE,Nat.zero_add,Nat.reduceAdd,e15]
       have E15:=Lib.hid e15
       clear e15
       go_simp
       exact HK.out _ _ (by simp [layS,updV,lstV,Act.put,E15.out]) hJ
      ·
       have e11:u 11=.int .u8 (F q:Nat):=hd 11 (by kernel_rfl)
       have e16:u 16=.int .u8 m:=hd 16 (by kernel_rfl)
       clear hd
       simp only [zzA,zzB]
       clear hl
       refine .inr ⟨rfl,fun K' hK=>?_⟩
       have HK:=Lib.hid hK
       clear hK
       simp only [layS,Act.put,zzC,zzD,zzE,Nat.zero_add,Nat.reduceAdd,e11,e16]
       have E11:=Lib.hid e11
       have E16:=Lib.hid e16
       clear e11 e16
       go_simp
       exact HK.out _ _ (by simp [layS,updV,lstV,Act.put,E11.out,E16.out]) hJ
      ·
       have e0:u 0=.slice (some ⟨g,0,none⟩) t.size c:=hd 0 (by kernel_rfl)
       have e4:u 4=.int .i64 (q:Nat):=hd 4 (by kernel_rfl)
       clear hd
       simp only [zzA,zzB]
       clear hl
       refine .inr ⟨rfl,fun K' hK=>?_⟩
       have HK:=Lib.hid hK
       clear hK
       simp only [layS,Act.put,zzC,zzD,zzE,Nat.zero_add,Nat.reduceAdd,e0,e4]
       have E0:=Lib.hid e0
       have E4:=Lib.hid e4
       clear e0 e4
       go_simp
       exact HK.out _ _ (by simp [layS,updV,lstV,Act.put,E0.out,E4.out]) hJ
     intro W hJ
     simp only [layS,lstV,Act.put,zzC,zzD,zzE,Nat.zero_add,Nat.reduceAdd,List.getD_cons_zero,List.getD_cons_succ,List.drop_succ_cons,List.drop_zero,List.drop_nil]
     have hfree:=hJ.1.free hqN
     have hcell:=hJ.1.cell hqN
     go_wp2
     go_roundw
     case rel=>exact ⟨i+1,⟨by omega,by omega⟩,by go_num,by show _=Value.bool (anyN p i || p i); rw [HP.out,Bool.or_true],by rw [turnN_yes HP.out,← HF.out]; exact hJ.1.put hqN (turn_at HQ.out HR.out HX.out) (turn_off HQ.out),hJ.2.setCell hgw _⟩
     case measure=>simp [intOf]; omega
   ·
    have d2:decide (z+(i:Int) < 8*(t.size:Int))=false:=decide_eq_false hin
    have HE:Hid (a+i≤8*t.size∧(i=16∨(i < 16∧8*t.size≤a+i))):=by have:=Ha.out; exact ⟨by omega,.inr ⟨h16,by omega⟩⟩
    have hFl:∀ j,j < t.size→X.turnN f a p i j < 256:=fun j _=>X.turnN_lt (by rw [Hf.out]; exact byA_lt _) a p _ j
    have HR:=Lib.hid (tells_right Hf.out H2.out H0.out HE.out (p:=p))
    go_wp2_with (refine zso rfl (fun K hK=>wp_cvs (.tmp 66) rfl rfl hby hFl (hK _ _ ?_)))
    simp only [Stop,Act.put,zzC,zzD,zzE]
    go_wp2_with fail
    refine (cright_at _ _ _ (by show (X.byF (X.turnN f a p i) t.size).toArray.size≤_; rw [List.size_toArray,X.byF_len]; omega) HR.out).mono ?_
    rintro e W2 ⟨rfl,hC⟩
    have hBB:=hbl.trans (hC.mono hbl.size)
    clear hC HR
    cases anyN p i
    ·
     go_wp2
     go_ret
     exact ⟨rfl,hBB⟩
    ·
     go_wp2
     go_ret
     exact ⟨rfl,hBB⟩
  ·
   obtain rfl:i=16:=by omega
   have HE:Hid (a+16≤8*t.size∧(16=16∨(16 < 16∧8*t.size≤a+16))):=by have:=Ha.out; exact ⟨by omega,.inl rfl⟩
   have hFl:∀ j,j < t.size→X.turnN f a p 16 j < 256:=fun j _=>X.turnN_lt (by rw [Hf.out]; exact byA_lt _) a p _ j
   have HR:=Lib.hid (tells_right Hf.out H2.out H0.out HE.out (p:=p))
   go_wp2_with (refine zso rfl (fun K hK=>wp_cvs (.tmp 66) rfl rfl hby hFl (hK _ _ ?_)))
   simp only [Stop,Act.put,zzC,zzD,zzE]
   go_wp2_with fail
   refine (cright_at _ _ _ (by show (X.byF (X.turnN f a p 16) t.size).toArray.size≤_; rw [List.size_toArray,X.byF_len]; omega) HR.out).mono ?_
   rintro e W2 ⟨rfl,hC⟩
   have hBB:=hbl.trans (hC.mono hbl.size)
   clear hC HR
   cases anyN p 16
   ·
    go_wp2
    go_ret
    exact ⟨rfl,hBB⟩
   ·
    go_wp2
    go_ret
    exact ⟨rfl,hBB⟩
set_option maxRecDepth 100000 in
set_option maxHeartbeats 1600000 in
theorem CrcTells_lo (s t:ByteArray) (z pt:Int) (w:World) (hA:∀ W,Calls Try.prog 9 #[] W (PVal (.bool true) W)) (hS:∀ W,Calls Try.prog 14 #[.string s] W (PVal (.string t) W)) (h:z < 0) :
  Calls Try.prog 6 #[.string s,.int .i64 z,.int .u16 pt] w (PVal (.bool true) w):=by
 have HA:=Lib.hid hA
 have HS:=Lib.hid hS
 clear hA hS
 have hB:=Below.refl w.heap.size w
 have e1:decide (z < 0)=true:=decide_eq_true h
 skip
 go_enter Try.func6,Try.ntmps6
 go_wp2_with fail
 refine (HA.out _).mono ?_
 rintro e0 Z0 ⟨rfl,hC⟩
 replace hB:=hB.trans (hC.mono hB.size)
 clear hC
 go_wp2_with fail
 refine (HS.out _).mono ?_
 rintro e1 Z1 ⟨rfl,hC⟩
 replace hB:=hB.trans (hC.mono hB.size)
 clear hC
 go_wp2
 go_ret
 exact ⟨rfl,hB⟩
set_option maxRecDepth 100000 in
set_option maxHeartbeats 1600000 in
theorem CrcTells_hi (s t:ByteArray) (z pt:Int) (w:World) (hA:∀ W,Calls Try.prog 9 #[] W (PVal (.bool true) W)) (hS:∀ W,Calls Try.prog 14 #[.string s] W (PVal (.string t) W)) (h0:¬ z < 0) (h:8*(t.size:Int)≤z) (ht:t.size≤281474976710656) :
  Calls Try.prog 6 #[.string s,.int .i64 z,.int .u16 pt] w (PVal (.bool true) w):=by
 have HA:=Lib.hid hA
 have HS:=Lib.hid hS
 clear hA hS
 have hB:=Below.refl w.heap.size w
 have e1:decide (z < 0)=false:=decide_eq_false h0
 have e2:decide (8*(t.size:Int)≤z)=true:=decide_eq_true h
 go_enter Try.func6,Try.ntmps6
 go_wp2_with fail
 refine (HA.out _).mono ?_
 rintro e0 Z0 ⟨rfl,hC⟩
 replace hB:=hB.trans (hC.mono hB.size)
 clear hC
 go_wp2_with fail
 refine (HS.out _).mono ?_
 rintro e1 Z1 ⟨rfl,hC⟩
 replace hB:=hB.trans (hC.mono hB.size)
 clear hC
 go_wp2
 go_ret
 exact ⟨rfl,hB⟩
theorem CrcTells_any (s:ByteArray) (z pt:Int) (w:World) (hs:s.size≤140737488355328) (z0:-9223372036854775808≤z) (z1:z≤9223372036854775807) (p0:0≤pt) (p1:pt≤65535):Calls Try.prog 6 #[.string s,.int .i64 z,.int .u16 pt] w (PVal (.bool true) w):=by
 have ht:(sealS s).size=s.size+2:=seal_size s
 have hS:∀ W,Calls Try.prog 14 #[.string s] W (PVal (.string (sealS s)) W):=fun W=>cseal_any s W (by omega)
 by_cases h:z < 0
 ·
  exact CrcTells_lo s _ z pt w cawake_any hS h
 by_cases h2:8*((sealS s).size:Int)≤z
 ·
  exact CrcTells_hi s _ z pt w cawake_any hS h h2 (by omega)
 ·
  obtain ⟨a,rfl⟩:=Int.eq_ofNat_of_zero_le (show 0≤z by omega)
  obtain ⟨n,rfl⟩:=Int.eq_ofNat_of_zero_le p0
  exact CrcTells_in s _ a n a n w cawake_any hS rfl rfl (by omega) (by omega) (by omega) (by omega) (by omega) (X.seal_zero _)
end Go.Proofs.Ytgallhpfabedoaa
