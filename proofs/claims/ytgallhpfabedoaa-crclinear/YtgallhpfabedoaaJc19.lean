/- Parts of the proof. -/
import Derived.Test.YtgallhpfabedoaaJc0
import Derived.Test.YtgallhpfabedoaaJc18
import Derived.Test.YtgallhpfabedoaaJc4
import Derived.Test.YtgallhpfabedoaaJc10
import Derived.Test.YtgallhpfabedoaaJc6
import Derived.Lib.MinMax
set_option linter.unusedSimpArgs false
set_option linter.unusedVariables false
/- The law CrcLinear: its walk. -/
namespace Go.Proofs.Ytgallhpfabedoaa
open Go Go.RowKit
def lin3 (s t r:ByteArray) (i:Nat):Nat:=byA s i ^^^ byA t i ^^^ byA r i
theorem lin3_lt (s t r:ByteArray) (i:Nat):lin3 s t r i < 256:=Nat.xor_lt_two_pow (n:=8) (Nat.xor_lt_two_pow (n:=8) (byA_lt s i) (byA_lt t i)) (byA_lt r i)
theorem Try.tinfo5:(Try.prog.info? 5).map (fun i=>(i.zero,i.size,i.bytes))=some (some (.int .u8 0),1,1):=by kernel_rfl
theorem byF_extract (s:ByteArray) {k:Nat} (h:k≤s.size):X.byF (byA s) k=(s.extract 0 k).data.toList:=by
 rw [extract_list,← byF_byA s]
 unfold X.byF
 rw [← List.map_take,List.take_range,Nat.min_eq_left h]
theorem lin_sum {s t r:ByteArray} {k:Nat} (hs:k≤s.size) (ht:k≤t.size) (hr:k≤r.size):X.csB 65535 (⟨(X.byF (lin3 s t r) k).toArray⟩:ByteArray).data.toList=X.csB 65535 (s.extract 0 k).data.toList ^^^ X.csB 65535 (t.extract 0 k).data.toList ^^^ X.csB 65535 (r.extract 0 k).data.toList:=by
 show X.csB 65535 (X.byF (lin3 s t r) k)=_
 rw [← byF_extract s hs,← byF_extract t ht,← byF_extract r hr,X.csB_bits,X.csB_bits,X.csB_bits,X.csB_bits,X.bits_byF _ _ (fun j _=>lin3_lt s t r j),X.bits_byF _ _ (fun j _=>byA_lt s j),X.bits_byF _ _ (fun j _=>byA_lt t j),X.bits_byF _ _ (fun j _=>byA_lt r j)]
 have e:(List.range (8*k)).map (X.bitA (lin3 s t r))=X.xorL (X.xorL ((List.range (8*k)).map (X.bitA (byA s))) ((List.range (8*k)).map (X.bitA (byA t)))) ((List.range (8*k)).map (X.bitA (byA r))):=by
  rw [X.xorL_map,X.xorL_map]
  refine List.map_congr_left fun q _=>?_
  unfold X.bitA lin3
  rw [Nat.testBit_xor,Nat.testBit_xor]
 rw [e]
 have h1:=X.cs_lin ((List.range (8*k)).map (X.bitA (byA s))) ((List.range (8*k)).map (X.bitA (byA t))) 65535 65535 (by simp)
 have h2:=X.cs_lin (X.xorL ((List.range (8*k)).map (X.bitA (byA s))) ((List.range (8*k)).map (X.bitA (byA t)))) ((List.range (8*k)).map (X.bitA (byA r))) (65535 ^^^ 65535) 65535 (by rw [X.xorL_len _ _ (by simp)]; simp)
 rw [h1,show 65535 ^^^ 65535 ^^^ 65535=65535 by decide] at h2
 exact h2
/-- A slice of one made since. -/
def Asl (m:Nat) (x:Value) (T:TypeId) (v:Value) (W:World):Prop:=∃ b,v=.slice (some ⟨b,0,none⟩) 1 1∧m≤b∧W.heap[b]?=some (.cells #[x] T (0,0))
theorem asl_new {m:Nat} {x:Value} {T:TypeId} {W:World} (h:m≤W.heap.size):Asl m x T (.slice (some ⟨W.heap.size,0,none⟩) 1 1) (W.alloc (.cells #[x] T)):=⟨_,rfl,h,heap_new W _⟩
theorem asl_cell {W:World} {b:Nat} {x:Value} {T:TypeId} (hc:W.heap[b]?=some (.cells #[x] T (0,0))):∀ j u,[x][j]?=some u→W.cell? ((⟨b,0,none⟩:Addr).add j)=some u:=by
 intro j u h
 match j,h with
 | 0,h =>
  cases h
  show World.cell? _ ⟨b,0,none⟩=_
  unfold World.cell?
  simp only [hc]
  rfl
theorem run_min3 {P:Program} (w:World) (ts:Array TypeId) (t:TypeId) (k k' k2:IntKind) (x y z:Int):(Builtin.min_ ts t #[.int k x,.int k' y,.int k2 z]).run P w=.ok (.int k (min (min x y) z)) w:=by
 have e:∀ a b:Int,(if b < a then b else a)=min a b:=by
  intro a b
  rw [Int.min_def]
  split <;> split <;> omega
 simp [Builtin.min_,Builtin.min2,e]
attribute [local go_sem high] run_min3
set_option maxRecDepth 100000 in
set_option maxHeartbeats 3200000 in
theorem CrcLinear_w (s t r:ByteArray) (n:Nat) (w:World) (hA:∀ W,Calls Try.prog 9 #[] W (PVal (.bool true) W)) (hn:min (min (s.size:Int) (t.size:Int)) (r.size:Int)=(n:Nat)) (hs:s.size≤140737488355328) (ht:t.size≤140737488355328) (hr:r.size≤140737488355328) :
  Calls Try.prog 7 #[.string s,.string t,.string r] w (PVal (.bool true) w):=by
 obtain ⟨i0,hi0,hz0,hzz1,hzz2⟩:=info_parts Try.tinfo5
 have HI:=Lib.hid (And.intro hi0 (And.intro hz0 (And.intro hzz1 hzz2)))
 clear hi0 hz0 hzz1 hzz2
 have HA:=Lib.hid hA
 clear hA
 have hns:n≤s.size∧n≤t.size∧n≤r.size:=by omega
 have hB:=Below.refl w.heap.size w
 go_enter Try.func7,Try.ntmps7
 go_wp2_with fail
 refine (HA.out _).mono ?_
 rintro e0 Z0 ⟨rfl,hC⟩
 replace hB:=hB.trans (hC.mono hB.size)
 clear hC
 go_wp2
 have HN:=Lib.hid hn
 clear hn
 go_loopw [9,10] (fun bv iv wr=>∃ k:Nat,k≤n∧iv=.int .i64 k∧wr.ownsRow w.heap.size 5 1 bv k (vals .u8 (lin3 s t r) k)∧Below w.heap.size w wr) (fun _ iv _=>n - (intOf iv).toNat)
 case atStart=>exact ⟨0,by omega,rfl,World.ownsRow_nil _ _ _ _,hB⟩
 case round =>
  clear hB
  obtain ⟨k,hk,rfl,how,hbl⟩:=hrel
  have ks':k≤s.size:=by omega
  have kt':k≤t.size:=by omega
  have ku':k≤r.size:=by omega
  by_cases hlt:k < n
  ·
   have ks:k < s.size:=by omega
   have kt:k < t.size:=by omega
   have ku:k < r.size:=by omega
   obtain ⟨bv,hbv⟩:∃ bv,bv=u9:=⟨_,rfl⟩
   rw [← hbv] at how
   rw [← hbv]
   clear hbv
   obtain ⟨x1,hx1⟩:∃ x1:Int,x1=(byA s k ^^^ byA t k:Nat):=⟨_,rfl⟩
   obtain ⟨x2,hx2⟩:∃ x2:Int,x2=(lin3 s t r k:Nat):=⟨_,rfl⟩
   have e1:bits .xor .u8 (s[k].toNat:Nat) (t[k].toNat:Nat)=x1:=by rw [hx1,byA_eq ks,byA_eq kt]; exact u8_xor_nat _ _ s[k].toNat_lt t[k].toNat_lt
   have e2:bits .xor .u8 x1 (r[k].toNat:Nat)=x2:=by
    rw [hx1,hx2]
    unfold lin3
    rw [byA_eq ku]
    exact u8_xor_nat _ _ (Nat.xor_lt_two_pow (n:=8) (byA_lt s k) (byA_lt t k)) r[k].toNat_lt
   have HX:=Lib.hid hx2
   clear hx1 hx2
   go_wp2
   refine wp_region_valsB5 13 12 [some 28,some 29,some 30,some 31,some 32,some 33,some 34,some 35,some 36,some 37,some 38,some 39,some 40] (lstV [bv,.string s,.int .i64 (k:Nat),.int .u8 ((s[k]'ks).toNat:Nat),.string t,.int .i64 (k:Nat),.int .u8 ((t[k]'kt).toNat:Nat),.int .u8 x1,.string r,.int .i64 (k:Nat),.int .u8 ((r[k]'ku).toNat:Nat),.int .u8 x2,undef]) (fun W=>W.ownsRow w.heap.size 5 1 bv k (vals .u8 (lin3 s t r) k)∧Below w.heap.size w W) (Asl w.heap.size (.int .u8 x2) 5) (by kernel_rfl) (by kernel_rfl) (by decide) (by decide) (⟨how.drew,hbl.drew⟩) ?_ ?_ ?_
   ·
    intro hl u W hJ hd
    have e11:u 11=.int .u8 x2:=hd 11 (by decide) (by kernel_rfl)
    clear hd
    simp only [zzA,zzB]
    clear hl
    refine ⟨rfl,fun K' hK=>?_⟩
    have HK:=Lib.hid hK
    clear hK
    simp only [layS,Act.put,zzC,zzD,zzE,Nat.zero_add,Nat.reduceAdd,e11]
    have E11:=Lib.hid e11
    clear e11
    go_simp
    exact HK.out _ _ (.slice (some ⟨W.heap.size,0,none⟩) 1 1) (by simp [layS,updV,lstV,Act.put,E11.out]) ⟨hJ.1.alloc _,hJ.2.alloc hJ.2.size _⟩ (asl_new hJ.2.size)
   ·
    intro i hl hi hne u W hJ hd
    obtain rfl | rfl | rfl | rfl | rfl | rfl | rfl | rfl | rfl | rfl | rfl | rfl | rfl:i=0∨i=1∨i=2∨i=3∨i=4∨i=5∨i=6∨i=7∨i=8∨i=9∨i=10∨i=11∨i=12:=by omega
    ·
     clear hd
     simp only [zzA,zzB]
     clear hl hne
     refine .inr ⟨rfl,fun K' hK=>?_⟩
     have HK:=Lib.hid hK
     clear hK
     simp only [layS,Act.put,zzC,zzD,zzE,Nat.zero_add,Nat.reduceAdd]
     go_simp
     exact HK.out _ _ (by simp [layS,updV,lstV,Act.put]) hJ (fun v hv=>hv)
    ·
     clear hd
     simp only [zzA,zzB]
     clear hl hne
     refine .inr ⟨rfl,fun K' hK=>?_⟩
     have HK:=Lib.hid hK
     clear hK
     simp only [layS,Act.put,zzC,zzD,zzE,Nat.zero_add,Nat.reduceAdd]
     go_simp
     exact HK.out _ _ (by simp [layS,updV,lstV,Act.put]) hJ (fun v hv=>hv)
    ·
     clear hd
     simp only [zzA,zzB]
     clear hl hne
     refine .inr ⟨rfl,fun K' hK=>?_⟩
     have HK:=Lib.hid hK
     clear hK
     simp only [layS,Act.put,zzC,zzD,zzE,Nat.zero_add,Nat.reduceAdd]
     go_simp
     exact HK.out _ _ (by simp [layS,updV,lstV,Act.put]) hJ (fun v hv=>hv)
    ·
     have e1:u 1=.string s:=hd 1 (by decide) (by kernel_rfl)
     have e2:u 2=.int .i64 (k:Nat):=hd 2 (by decide) (by kernel_rfl)
     clear hd
     simp only [zzA,zzB]
     clear hl hne
     refine .inr ⟨rfl,fun K' hK=>?_⟩
     have HK:=Lib.hid hK
     clear hK
     simp only [layS,Act.put,zzC,zzD,zzE,Nat.zero_add,Nat.reduceAdd,e1,e2]
     have E1:=Lib.hid e1
     have E2:=Lib.hid e2
     clear e1 e2
     go_simp
     exact HK.out _ _ (by simp [layS,updV,lstV,Act.put,E1.out,E2.out]) hJ (fun v hv=>hv)
    ·
     clear hd
     simp only [zzA,zzB]
     clear hl hne
     refine .inr ⟨rfl,fun K' hK=>?_⟩
     have HK:=Lib.hid hK
     clear hK
     simp only [layS,Act.put,zzC,zzD,zzE,Nat.zero_add,Nat.reduceAdd]
     go_simp
     exact HK.out _ _ (by simp [layS,updV,lstV,Act.put]) hJ (fun v hv=>hv)
    ·
     clear hd
     simp only [zzA,zzB]
     clear hl hne
     refine .inr ⟨rfl,fun K' hK=>?_⟩
     have HK:=Lib.hid hK
     clear hK
     simp only [layS,Act.put,zzC,zzD,zzE,Nat.zero_add,Nat.reduceAdd]
     go_simp
     exact HK.out _ _ (by simp [layS,updV,lstV,Act.put]) hJ (fun v hv=>hv)
    ·
     have e4:u 4=.string t:=hd 4 (by decide) (by kernel_rfl)
     have e5:u 5=.int .i64 (k:Nat):=hd 5 (by decide) (by kernel_rfl)
     clear hd
     simp only [zzA,zzB]
     clear hl hne
     refine .inr ⟨rfl,fun K' hK=>?_⟩
     have HK:=Lib.hid hK
     clear hK
     simp only [layS,Act.put,zzC,zzD,zzE,Nat.zero_add,Nat.reduceAdd,e4,e5]
     have E4:=Lib.hid e4
     have E5:=Lib.hid e5
     clear e4 e5
     go_simp
     exact HK.out _ _ (by simp [layS,updV,lstV,Act.put,E4.out,E5.out]) hJ (fun v hv=>hv)
    ·
     have e3:u 3=.int .u8 ((s[k]'ks).toNat:Nat):=hd 3 (by decide) (by kernel_rfl)
     have e6:u 6=.int .u8 ((t[k]'kt).toNat:Nat):=hd 6 (by decide) (by kernel_rfl)
     clear hd
     simp only [zzA,zzB]
     clear hl hne
     refine .inr ⟨rfl,fun K' hK=>?_⟩
     have HK:=Lib.hid hK
     clear hK
     simp only [layS,Act.put,zzC,zzD,zzE,Nat.zero_add,Nat.reduceAdd,e3,e6]
     have E3:=Lib.hid e3
     have E6:=Lib.hid e6
     clear e3 e6
     go_simp
     exact HK.out _ _ (by simp [layS,updV,lstV,Act.put,E3.out,E6.out]) hJ (fun v hv=>hv)
    ·
     clear hd
     simp only [zzA,zzB]
     clear hl hne
     refine .inr ⟨rfl,fun K' hK=>?_⟩
     have HK:=Lib.hid hK
     clear hK
     simp only [layS,Act.put,zzC,zzD,zzE,Nat.zero_add,Nat.reduceAdd]
     go_simp
     exact HK.out _ _ (by simp [layS,updV,lstV,Act.put]) hJ (fun v hv=>hv)
    ·
     clear hd
     simp only [zzA,zzB]
     clear hl hne
     refine .inr ⟨rfl,fun K' hK=>?_⟩
     have HK:=Lib.hid hK
     clear hK
     simp only [layS,Act.put,zzC,zzD,zzE,Nat.zero_add,Nat.reduceAdd]
     go_simp
     exact HK.out _ _ (by simp [layS,updV,lstV,Act.put]) hJ (fun v hv=>hv)
    ·
     have e8:u 8=.string r:=hd 8 (by decide) (by kernel_rfl)
     have e9:u 9=.int .i64 (k:Nat):=hd 9 (by decide) (by kernel_rfl)
     clear hd
     simp only [zzA,zzB]
     clear hl hne
     refine .inr ⟨rfl,fun K' hK=>?_⟩
     have HK:=Lib.hid hK
     clear hK
     simp only [layS,Act.put,zzC,zzD,zzE,Nat.zero_add,Nat.reduceAdd,e8,e9]
     have E8:=Lib.hid e8
     have E9:=Lib.hid e9
     clear e8 e9
     go_simp
     exact HK.out _ _ (by simp [layS,updV,lstV,Act.put,E8.out,E9.out]) hJ (fun v hv=>hv)
    ·
     have e7:u 7=.int .u8 x1:=hd 7 (by decide) (by kernel_rfl)
     have e10:u 10=.int .u8 ((r[k]'ku).toNat:Nat):=hd 10 (by decide) (by kernel_rfl)
     clear hd
     simp only [zzA,zzB]
     clear hl hne
     refine .inr ⟨rfl,fun K' hK=>?_⟩
     have HK:=Lib.hid hK
     clear hK
     simp only [layS,Act.put,zzC,zzD,zzE,Nat.zero_add,Nat.reduceAdd,e7,e10]
     have E7:=Lib.hid e7
     have E10:=Lib.hid e10
     clear e7 e10
     go_simp
     exact HK.out _ _ (by simp [layS,updV,lstV,Act.put,E7.out,E10.out]) hJ (fun v hv=>hv)
    ·
     exact absurd rfl hne
   intro W va hJ hA
   obtain ⟨bq,rfl,hbq,hbk⟩:=hA
   simp only [layS,updV,lstV,if_true,if_false,reduceIte,Nat.reduceEqDiff,Act.put,zzC,zzD,zzE,Nat.zero_add,Nat.reduceAdd,List.getD_cons_zero,List.getD_cons_succ,List.drop_succ_cons,List.drop_zero,List.drop_nil]
   replace how:=hJ.1
   replace hbl:=hJ.2
   clear hJ
   go_wp2_with (first
    | (at_builtin; refine wpList_append_own _ rfl _ _ 32 rfl w.heap.size 5 i0 (.int .u8 0) 1 1 ub32 HI.out.1 HI.out.2.1 HI.out.2.2.1 HI.out.2.2.2 rfl (by decide) _ _ _ rfl how ⟨bq,0,none⟩ 1 1 [.int .u8 x2] rfl rfl ?c1 ?c2 ?c3 ?c4 ?c5 ?_)
    | fail)
   case c1=>exact asl_cell hbk
   case c2=>intro v hv; simp at hv; subst hv; rfl
   case c3=>unfold maxLen; omega
   case c4=>omega
   case c5=>exact hbl.size
   intro v' w3 hown' hgrow _
   rw [HX.out] at hown'
   have hown2:w3.ownsRow w.heap.size 5 1 v' (k+1) (vals .u8 (lin3 s t r) (k+1)):=by rw [← vals_succ]; exact hown'
   have hb3:Below w.heap.size w w3:=hbl.grown hgrow hbl.size (fun q hq=>(how.lt q hq).1)
   clear hgrow how hown'
   go_wp2
   go_roundw
   case rel=>exact ⟨k+1,by omega,by go_num,hown2,hb3⟩
   case measure=>simp [intOf]; omega
  ·
   have hkn:k=n:=by omega
   subst hkn
   obtain ⟨la,lc,rfl,hlie⟩:=lie_owned how
   have es:∀ q:ByteArray,k≤q.size→(q.extract 0 k).size≤4611686018427387904:=fun q hq=>by rw [ByteArray.size_extract]; omega
   have HS:=Lib.hid (lin_sum (s:=s) (t:=t) (r:=r) ks' kt' ku')
   obtain ⟨a1,ha1⟩:∃ a1:Nat,a1=X.csB 65535 (s.extract 0 k).data.toList:=⟨_,rfl⟩
   obtain ⟨a2,ha2⟩:∃ a2:Nat,a2=X.csB 65535 (t.extract 0 k).data.toList:=⟨_,rfl⟩
   obtain ⟨a3,ha3⟩:∃ a3:Nat,a3=X.csB 65535 (r.extract 0 k).data.toList:=⟨_,rfl⟩
   obtain ⟨a4,ha4⟩:∃ a4:Nat,a4=X.csB 65535 (⟨(X.byF (lin3 s t r) k).toArray⟩:ByteArray).data.toList:=⟨_,rfl⟩
   have l1:a1 < 65536:=by rw [ha1]; exact X.csB_lt _ (by decide)
   have l2:a2 < 65536:=by rw [ha2]; exact X.csB_lt _ (by decide)
   have l3:a3 < 65536:=by rw [ha3]; exact X.csB_lt _ (by decide)
   have hS:=HS.out
   rw [← ha1,← ha2,← ha3,← ha4] at hS
   have HS2:=Lib.hid hS
   clear hS HS
   have H1:=Lib.hid ha1
   have H2:=Lib.hid ha2
   have H3:=Lib.hid ha3
   have H4:=Lib.hid ha4
   clear ha1 ha2 ha3 ha4
   go_wp2_with fail
   refine (cof_at _ (a1:Nat) _ (es s ks') (by rw [H1.out])).mono ?_
   rintro e1 Z1 ⟨rfl,hC⟩
   have hB1:=hbl.trans (hC.mono hbl.size)
   have hlie1:=hlie.below hC
   clear hC
   go_wp2_with fail
   refine (cof_at _ (a2:Nat) _ (es t kt') (by rw [H2.out])).mono ?_
   rintro e2 Z2 ⟨rfl,hC⟩
   have hB2:=hB1.trans (hC.mono hB1.size)
   have hlie2:=hlie1.below hC
   clear hC
   go_wp2_with fail
   refine (cof_at _ (a3:Nat) _ (es r ku') (by rw [H3.out])).mono ?_
   rintro e3 Z3 ⟨rfl,hC⟩
   have hB3:=hB2.trans (hC.mono hB2.size)
   have hlie3:=hlie2.below hC
   clear hC
   go_wp2_with (refine zso rfl (fun K hK=>wp_cvl (.tmp 54) rfl rfl hlie3 (fun j _=>lin3_lt s t r j) (hK _ _ ?_)))
   simp only [Stop,Act.put,zzC,zzD,zzE]
   go_wp2_with fail
   refine (cof_at _ (a4:Nat) _ (by show (X.byF (lin3 s t r) k).toArray.size≤_; rw [List.size_toArray,X.byF_len]; omega) (by rw [H4.out])).mono ?_
   rintro e4 Z4 ⟨rfl,hC⟩
   have hB4:=hB3.trans (hC.mono hB3.size)
   clear hC
   have x1:bits .xor .u16 (a1:Int) (a2:Int)=((a1 ^^^ a2:Nat):Int):=u16_xor_nat _ _ l1 l2
   have x2:bits .xor .u16 ((a1 ^^^ a2:Nat):Int) (a3:Int)=(a4:Nat):=by rw [HS2.out]; exact u16_xor_nat _ _ (X.xor_lt16 l1 l2) l3
   go_wp2
   go_ret
   exact ⟨rfl,hB4⟩
theorem CrcLinear_any (s t r:ByteArray) (w:World) (hs:s.size≤140737488355328) (ht:t.size≤140737488355328) (hr:r.size≤140737488355328):Calls Try.prog 7 #[.string s,.string t,.string r] w (PVal (.bool true) w):=by
 obtain ⟨n,hn⟩:=Int.eq_ofNat_of_zero_le (show 0≤min (min (s.size:Int) (t.size:Int)) (r.size:Int) by omega)
 exact CrcLinear_w s t r n w cawake_any hn hs ht hr
theorem turn_differ {t:ByteArray} {f:Nat→Nat} {a i:Nat} {p:Nat→Bool} (hf:f=byA t) (h:a+i≤8*t.size∧(i=16∨(i < 16∧8*t.size≤a+i))) (k:Nat):((((X.csB k t.data.toList:Nat):Int)) != ((X.csB k (X.byF (X.turnN f a p i) t.size):Nat):Int))=anyN p i:=by
 have key:=turn_sum (f:=f) (p:=p) (by rw [hf]; exact byA_lt t) h k
 have e:X.byF f t.size=t.data.toList:=by rw [hf]; exact byF_byA t
 rw [e] at key
 cases hp:anyN p i
 ·
  rw [key.2 hp]
  simp
 ·
  rw [bne_iff_ne]
  intro hc
  have:=key.1 (by exact_mod_cast hc.symm)
  rw [hp] at this
  cases this
set_option maxRecDepth 100000 in
set_option maxHeartbeats 1600000 in
theorem CrcUnlike_in (t:ByteArray) (u v z pt:Int) (a pn k:Nat) (w:World) (hA:∀ W,Calls Try.prog 9 #[] W (PVal (.bool true) W)) (hM:∀ W,Calls Try.prog 10 #[.int .u16 u,.string t] W (PVal (.int .u16 v) W)) (ha:z=(a:Nat)) (hpt:pt=(pn:Nat)) (hu:u=(k:Nat)) (hk:k < 65536) (hv:v=(X.csB k t.data.toList:Nat)) (hpn:pn < 65536) (h0:0≤z) (h1:z < 8*(t.size:Int)) (ht:t.size≤100000) :
  Calls Try.prog 8 #[.int .u16 u,.string t,.int .i64 z,.int .u16 pt] w (PVal (.bool true) w):=by
 have HA:=Lib.hid hA
 have HM:=Lib.hid hM
 have Ha:=Lib.hid ha
 have Hpt:=Lib.hid hpt
 have HU:=Lib.hid hu
 have Hk:=Lib.hid hk
 have HV:=Lib.hid hv
 have hptb:0≤pt∧pt < 65536:=by omega
 clear hA hM ha hpt hu hk hv
 have hB:=Below.refl w.heap.size w
 have e1:decide (z < 0)=false:=decide_eq_false (by omega)
 have e2:decide (8*(t.size:Int)≤z)=false:=decide_eq_false (by omega)
 have e3:decide (100000 < (t.size:Int))=false:=decide_eq_false (by omega)
 go_enter Try.func8,Try.ntmps8
 go_wp2_with fail
 refine (HA.out _).mono ?_
 rintro e0 Z0 ⟨rfl,hC⟩
 replace hB:=hB.trans (hC.mono hB.size)
 clear hC
 go_wp2_with (refine zso rfl (fun K hK=>wp_cvb (.tmp 31) rfl rfl (fun g c W1 hg hc HBY hB2=>hK _ _ ?_)))
 simp only [Stop,Act.put,zzC,zzD,zzE]
 have hB1:=hB.trans (hB2.mono hB.size)
 have hgw:w.heap.size≤g:=Nat.le_trans hB.size hg
 clear hB2 hB
 obtain ⟨f,hf⟩:∃ f,f=byA t:=⟨_,rfl⟩
 rw [← hf] at HBY
 have Hf:=Lib.hid hf
 clear hf
 obtain ⟨p,hp⟩:∃ p,p=patB pn:=⟨_,rfl⟩
 have Hp:=Lib.hid hp
 clear hp
 go_wp2
 go_loopw [11,12] (fun tv iv wr=>∃ i:Nat,(i≤16∧z+(i:Int)≤8*(t.size:Int))∧iv=.int .i64 i∧tv=.bool (anyN p i)∧Byt wr g t.size (X.turnN f a p i)∧Below w.heap.size w wr) (fun _ iv _=>16 - (intOf iv).toNat)
 case atStart=>exact ⟨0,by omega,rfl,rfl,HBY,hB1⟩
 case round =>
  obtain ⟨i,⟨hi,hiN⟩,rfl,rfl,hby,hbl⟩:=hrel
  clear HBY hB1
  by_cases h16:i < 16
  ·
   by_cases hin:z+(i:Int) < 8*(t.size:Int)
   ·
    have d2:decide (z+(i:Int) < 8*(t.size:Int))=true:=decide_eq_true hin
    have hsh:bits .and .u16 (pt / 2 ^ (15 - i)) 1=if p i then 1 else 0:=by rw [Hpt.out,Hp.out]; exact shr_bit hpn (by omega)
    cases hp:p i
    ·
     have HP:=Lib.hid hp
     rw [hp] at hsh
     simp only [Bool.false_eq_true,if_false] at hsh
     clear hp
     go_wp2
     go_roundw
     case rel=>exact ⟨i+1,⟨by omega,by omega⟩,by go_num,by show _=Value.bool (anyN p i || p i); rw [HP.out,Bool.or_false],by rw [turnN_no HP.out]; exact hby,hbl⟩
     case measure=>simp [intOf]; omega
    ·
     have HP:=Lib.hid hp
     rw [hp] at hsh
     simp only [if_true] at hsh
     clear hp
     obtain ⟨q,hq⟩:∃ q:Nat,q=(a+i) / 8:=⟨_,rfl⟩
     obtain ⟨r,hr⟩:∃ r:Nat,r=(a+i) % 8:=⟨_,rfl⟩
     have hz:=Ha.out
     have hqN:q < t.size:=by omega
     have hq1:(z+(i:Int)) / 8=(q:Nat):=by omega
     have hq2:(z+(i:Int)).tdiv 8=(q:Nat):=by rw [Int.tdiv_eq_ediv_of_nonneg (by omega)]; omega
     have hr1:(z+(i:Int)) % 8=(r:Nat):=by omega
     have hr2:(z+(i:Int)).tmod 8=(r:Nat):=by rw [Int.tmod_eq_emod_of_nonneg (by omega)]; omega
     have hr8:r < 8:=by omega
     have hw1:IntKind.i64.wrap (z+(i:Int))=z+(i:Int):=IntWalk.i64_in _ ⟨by omega,by omega⟩
     have hw2:IntKind.i64.wrap (q:Int)=(q:Int):=IntWalk.i64_in _ ⟨by omega,by omega⟩
     obtain ⟨F,hF⟩:∃ F,F=X.turnN f a p i:=⟨_,rfl⟩
     rw [← hF] at hby
     have hFl:F q < 256:=by rw [hF]; exact X.turnN_lt (by rw [Hf.out]; exact byA_lt _) a p i q
     obtain ⟨m,hm⟩:∃ m:Int,m=(128 >>> r:Nat):=⟨_,rfl⟩
     have hm1:(128:Int) / 2 ^ r=m:=by rw [hm,Nat.shiftRight_eq_div_pow]; rfl
     have hmb:0≤m∧m < 256:=by rw [hm]; exact ⟨Int.natCast_nonneg _,by exact_mod_cast Nat.lt_of_le_of_lt (Nat.shiftRight_le 128 r) (show 128 < 256 by decide)⟩
     obtain ⟨x,hx⟩:∃ x:Int,x=(F q ^^^ 128 >>> r:Nat):=⟨_,rfl⟩
     have hx1:bits .xor .u8 (F q:Nat) m=x:=by rw [hx,hm]; exact u8_xor_nat _ _ hFl (by have:=Nat.shiftRight_le 128 r; omega)
     have HF:=Lib.hid hF
     have HX:=Lib.hid hx
     have HQ:=Lib.hid hq
     have HR:=Lib.hid hr
     clear hF hx hm hq hr hz
     have hfree:=hby.free hqN
     have hcell:=hby.cell hqN
     go_wp2
     refine wp_region_vals 19 [some 52,some 53,some 54,some 55,some 56,some 57,some 58,some 59,some 60,some 61,some 62,some 63,some 64,some 65,some 66,some 67,some 68,some 69,some 70] (lstV [.slice (some ⟨g,0,none⟩) t.size c,.int .i64 z,.int .i64 (i:Nat),.int .i64 (z+(i:Nat)),.int .i64 (q:Nat),.slice (some ⟨g,0,none⟩) t.size c,.int .i64 z,.int .i64 (i:Nat),.int .i64 (z+(i:Nat)),.int .i64 (q:Nat),.pointer (some ⟨g,q,none⟩),.int .u8 (F q:Nat),.int .i64 z,.int .i64 (i:Nat),.int .i64 (z+(i:Nat)),.int .i64 (r:Nat),.int .u8 m,.int .u8 x,.pointer (some ⟨g,q,none⟩)]) (fun W=>Byt W g t.size F∧Below w.heap.size w W) (by kernel_rfl) (by kernel_rfl) (by decide) (⟨hby.below (Below.refl _ _).drew,hbl.drew⟩) ?_ ?_
     ·
      intro i hl hi u W hJ hd
      obtain rfl | rfl | rfl | rfl | rfl | rfl | rfl | rfl | rfl | rfl | rfl | rfl | rfl | rfl | rfl | rfl | rfl | rfl | rfl:i=0∨i=1∨i=2∨i=3∨i=4∨i=5∨i=6∨i=7∨i=8∨i=9∨i=10∨i=11∨i=12∨i=13∨i=14∨i=15∨i=16∨i=17∨i=18:=by omega
      ·
       clear hd
       simp only [zzA,zzB]
       clear hl
       refine .inr ⟨rfl,fun K' hK=>?_⟩
       have HK:=Lib.hid hK
       clear hK
       simp only [layS,Act.put,zzC,zzD,zzE,Nat.zero_add,Nat.reduceAdd]
       go_simp
       exact HK.out _ _ (by simp [layS,updV,lstV,Act.put]) hJ
      ·
       clear hd
       simp only [zzA,zzB]
       clear hl
       refine .inr ⟨rfl,fun K' hK=>?_⟩
       have HK:=Lib.hid hK
       clear hK
       simp only [layS,Act.put,zzC,zzD,zzE,Nat.zero_add,Nat.reduceAdd]
       go_simp
       exact HK.out _ _ (by simp [layS,updV,lstV,Act.put]) hJ
      ·
       clear hd
       simp only [zzA,zzB]
       clear hl
       refine .inr ⟨rfl,fun K' hK=>?_⟩
       have HK:=Lib.hid hK
       clear hK
       simp only [layS,Act.put,zzC,zzD,zzE,Nat.zero_add,Nat.reduceAdd]
       go_simp
       exact HK.out _ _ (by simp [layS,updV,lstV,Act.put]) hJ
      ·
       have e1:u 1=.int .i64 z:=hd 1 (by kernel_rfl)
       have e2:u 2=.int .i64 (i:Nat):=hd 2 (by kernel_rfl)
       clear hd
       simp only [zzA,zzB]
       clear hl
       refine .inr ⟨rfl,fun K' hK=>?_⟩
       have HK:=Lib.hid hK
       clear hK
       simp only [layS,Act.put,zzC,zzD,zzE,Nat.zero_add,Nat.reduceAdd,e1,e2]
       have E1:=Lib.hid e1
       have E2:=Lib.hid e2
       clear e1 e2
       go_simp
       exact HK.out _ _ (by simp [layS,updV,lstV,Act.put,E1.out,E2.out]) hJ
      ·
       have e3:u 3=.int .i64 (z+(i:Nat)):=hd 3 (by kernel_rfl)
       clear hd
       simp only [zzA,zzB]
       clear hl
       refine .inr ⟨rfl,fun K' hK=>?_⟩
       have HK:=Lib.hid hK
       clear hK
       simp only [layS,Act.put,zzC,zzD,zzE,Nat.zero_add,Nat.reduceAdd,e3]
       have E3:=Lib.hid e3
       clear e3
       go_simp
       exact HK.out _ _ (by simp [layS,updV,lstV,Act.put,E3.out]) hJ
      ·
       clear hd
       simp only [zzA,zzB]
       clear hl
       refine .inr ⟨rfl,fun K' hK=>?_⟩
       have HK:=Lib.hid hK
       clear hK
       simp only [layS,Act.put,zzC,zzD,zzE,Nat.zero_add,Nat.reduceAdd]
       go_simp
       exact HK.out _ _ (by simp [layS,updV,lstV,Act.put]) hJ
      ·
       clear hd
       simp only [zzA,zzB]
       clear hl
       refine .inr ⟨rfl,fun K' hK=>?_⟩
       have HK:=Lib.hid hK
       clear hK
       simp only [layS,Act.put,zzC,zzD,zzE,Nat.zero_add,Nat.reduceAdd]
       go_simp
       exact HK.out _ _ (by simp [layS,updV,lstV,Act.put]) hJ
      ·
       clear hd
       simp only [zzA,zzB]
       clear hl
       refine .inr ⟨rfl,fun K' hK=>?_⟩
       have HK:=Lib.hid hK
       clear hK
       simp only [layS,Act.put,zzC,zzD,zzE,Nat.zero_add,Nat.reduceAdd]
       go_simp
       exact HK.out _ _ (by simp [layS,updV,lstV,Act.put]) hJ
      ·
       have e6:u 6=.int .i64 z:=hd 6 (by kernel_rfl)
       have e7:u 7=.int .i64 (i:Nat):=hd 7 (by kernel_rfl)
       clear hd
       simp only [zzA,zzB]
       clear hl
       refine .inr ⟨rfl,fun K' hK=>?_⟩
       have HK:=Lib.hid hK
       clear hK
       simp only [layS,Act.put,zzC,zzD,zzE,Nat.zero_add,Nat.reduceAdd,e6,e7]
       have E6:=Lib.hid e6
       have E7:=Lib.hid e7
       clear e6 e7
       go_simp
       exact HK.out _ _ (by simp [layS,updV,lstV,Act.put,E6.out,E7.out]) hJ
      ·
       have e8:u 8=.int .i64 (z+(i:Nat)):=hd 8 (by kernel_rfl)
       clear hd
       simp only [zzA,zzB]
       clear hl
       refine .inr ⟨rfl,fun K' hK=>?_⟩
       have HK:=Lib.hid hK
       clear hK
       simp only [layS,Act.put,zzC,zzD,zzE,Nat.zero_add,Nat.reduceAdd,e8]
       have E8:=Lib.hid e8
       clear e8
       go_simp
       exact HK.out _ _ (by simp [layS,updV,lstV,Act.put,E8.out]) hJ
      ·
       have e5:u 5=.slice (some ⟨g,0,none⟩) t.size c:=hd 5 (by kernel_rfl)
       have e9:u 9=.int .i64 (q:Nat):=hd 9 (by kernel_rfl)
       clear hd
       simp only [zzA,zzB]
       clear hl
       refine .inr ⟨rfl,fun K' hK=>?_⟩
       have HK:=Lib.hid hK
       clear hK
       simp only [layS,Act.put,zzC,zzD,zzE,Nat.zero_add,Nat.reduceAdd,e5,e9]
       have E5:=Lib.hid e5
       have E9:=Lib.hid e9
       clear e5 e9
       go_simp
       exact HK.out _ _ (by simp [layS,updV,lstV,Act.put,E5.out,E9.out]) hJ
      ·
       have e10:u 10=.pointer (some ⟨g,q,none⟩):=hd 10 (by kernel_rfl)
       clear hd
       simp only [zzA,zzB]
       clear hl
       refine .inr ⟨rfl,fun K' hK=>?_⟩
       have HK:=Lib.hid hK
       clear hK
       simp only [layS,Act.put,zzC,zzD,zzE,Nat.zero_add,Nat.reduceAdd,e10]
       have E10:=Lib.hid e10
       clear e10
       have hcl:=hJ.1.cell hqN
       go_simp
       exact HK.out _ _ (by simp [layS,updV,lstV,Act.put,E10.out]) hJ
      ·
       clear hd
       simp only [zzA,zzB]
       clear hl
       refine .inr ⟨rfl,fun K' hK=>?_⟩
       have HK:=Lib.hid hK
       clear hK
       simp only [layS,Act.put,zzC,zzD,zzE,Nat.zero_add,Nat.reduceAdd]
       go_simp
       exact HK.out _ _ (by simp [layS,updV,lstV,Act.put]) hJ
      ·
       clear hd
       simp only [zzA,zzB]
       clear hl
       refine .inr ⟨rfl,fun K' hK=>?_⟩
       have HK:=Lib.hid hK
       clear hK
       simp only [layS,Act.put,zzC,zzD,zzE,Nat.zero_add,Nat.reduceAdd]
       go_simp
       exact HK.out _ _ (by simp [layS,updV,lstV,Act.put]) hJ
      ·
       have e12:u 12=.int .i64 z:=hd 12 (by kernel_rfl)
       have e13:u 13=.int .i64 (i:Nat):=hd 13 (by kernel_rfl)
       clear hd
       simp only [zzA,zzB]
       clear hl
       refine .inr ⟨rfl,fun K' hK=>?_⟩
       have HK:=Lib.hid hK
       clear hK
       simp only [layS,Act.put,zzC,zzD,zzE,Nat.zero_add,Nat.reduceAdd,e12,e13]
       have E12:=Lib.hid e12
       have E13:=Lib.hid e13
       clear e12 e13
       go_simp
       exact HK.out _ _ (by simp [layS,updV,lstV,Act.put,E12.out,E13.out]) hJ
      ·
       have e14:u 14=.int .i64 (z+(i:Nat)):=hd 14 (by kernel_rfl)
       clear hd
       simp only [zzA,zzB]
       clear hl
       refine .inr ⟨rfl,fun K' hK=>?_⟩
       have HK:=Lib.hid hK
       clear hK
       simp only [layS,Act.put,zzC,zzD,zzE,Nat.zero_add,Nat.reduceAdd,e14]
       have E14:=Lib.hid e14
       clear e14
       go_simp
       exact HK.out _ _ (by simp [layS,updV,lstV,Act.put,E14.out]) hJ
      ·
       have e15:u 15=.int .i64 (r:Nat):=hd 15 (by kernel_rfl)
       clear hd
       simp only [zzA,zzB]
       clear hl
       refine .inr ⟨rfl,fun K' hK=>?_⟩
       have HK:=Lib.hid hK
       clear hK
       simp only [layS,Act.put,zzC,zzD,zzE,Nat.zero_add,Nat.reduceAdd,e15]
       have E15:=Lib.hid e15
       clear e15
       go_simp
       exact HK.out _ _ (by simp [layS,updV,lstV,Act.put,E15.out]) hJ
      ·
       have e11:u 11=.int .u8 (F q:Nat):=hd 11 (by kernel_rfl)
       have e16:u 16=.int .u8 m:=hd 16 (by kernel_rfl)
       clear hd
       simp only [zzA,zzB]
       clear hl
       refine .inr ⟨rfl,fun K' hK=>?_⟩
       have HK:=Lib.hid hK
       clear hK
       simp only [layS,Act.put,zzC,zzD,zzE,Nat.zero_add,Nat.reduceAdd,e11,e16]
       have E11:=Lib.hid e11
       have E16:=Lib.hid e16
       clear e11 e16
       go_simp
       exact HK.out _ _ (by simp [layS,updV,lstV,Act.put,E11.out,E16.out]) hJ
      ·
       have e0:u 0=.slice (some ⟨g,0,none⟩) t.size c:=hd 0 (by kernel_rfl)
       have e4:u 4=.int .i64 (q:Nat):=hd 4 (by kernel_rfl)
       clear hd
       simp only [zzA,zzB]
       clear hl
       refine .inr ⟨rfl,fun K' hK=>?_⟩
       have HK:=Lib.hid hK
       clear hK
       simp only [layS,Act.put,zzC,zzD,zzE,Nat.zero_add,Nat.reduceAdd,e0,e4]
       have E0:=Lib.hid e0
       have E4:=Lib.hid e4
       clear e0 e4
       go_simp
       exact HK.out _ _ (by simp [layS,updV,lstV,Act.put,E0.out,E4.out]) hJ
     intro W hJ
     simp only [layS,lstV,Act.put,zzC,zzD,zzE,Nat.zero_add,Nat.reduceAdd,List.getD_cons_zero,List.getD_cons_succ,List.drop_succ_cons,List.drop_zero,List.drop_nil]
     have hfree:=hJ.1.free hqN
     have hcell:=hJ.1.cell hqN
     go_wp2
     go_roundw
     case rel=>exact ⟨i+1,⟨by omega,by omega⟩,by go_num,by show _=Value.bool (anyN p i || p i); rw [HP.out,Bool.or_true],by rw [turnN_yes HP.out,← HF.out]; exact hJ.1.put hqN (turn_at HQ.out HR.out HX.out) (turn_off HQ.out),hJ.2.setCell hgw _⟩
     case measure=>simp [intOf]; omega
   ·
    have d2:decide (z+(i:Int) < 8*(t.size:Int))=false:=decide_eq_false hin
    have HE:Hid (a+i≤8*t.size∧(i=16∨(i < 16∧8*t.size≤a+i))):=by have:=Ha.out; exact ⟨by omega,.inr ⟨h16,by omega⟩⟩
    have hFl:∀ j,j < t.size→X.turnN f a p i j < 256:=fun j _=>X.turnN_lt (by rw [Hf.out]; exact byA_lt _) a p _ j
    have HR:=Lib.hid (turn_differ Hf.out HE.out (p:=p) k)
    go_wp2_with fail
    refine (HM.out _).mono ?_
    rintro e W2 ⟨rfl,hC⟩
    have hB2:=hbl.trans (hC.mono hbl.size)
    have hby2:=hby.below hC
    clear hC
    go_wp2_with (refine zso rfl (fun K hK=>wp_cvs (.tmp 75) rfl rfl hby2 hFl (hK _ _ ?_)))
    simp only [Stop,Act.put,zzC,zzD,zzE]
    go_wp2_with fail
    refine (cmore_any k _ _ _ Hk.out HU.out (by show (X.byF (X.turnN f a p i) t.size).toArray.size≤_; rw [List.size_toArray,X.byF_len]; omega)).mono ?_
    rintro e W3 ⟨rfl,hC⟩
    have hBB:=hB2.trans (hC.mono hB2.size)
    clear hC hB2
    obtain ⟨y,hy⟩:∃ y:Int,y=(X.csB k (X.byF (X.turnN f a p i) t.size):Nat):=⟨_,rfl⟩
    have hR:=HR.out
    rw [← HV.out,← hy] at hR
    rw [show (X.csB k (⟨(X.byF (X.turnN f a p i) t.size).toArray⟩:ByteArray).data.toList)=X.csB k (X.byF (X.turnN f a p i) t.size) from rfl,← hy]
    clear hy HR
    cases hq:anyN p i
    ·
     rw [hq] at hR
     go_wp2
     go_ret
     exact ⟨rfl,hBB⟩
    ·
     rw [hq] at hR
     go_wp2
     go_ret
     exact ⟨rfl,hBB⟩
  ·
   obtain rfl:i=16:=by omega
   have HE:Hid (a+16≤8*t.size∧(16=16∨(16 < 16∧8*t.size≤a+16))):=by have:=Ha.out; exact ⟨by omega,.inl rfl⟩
   have hFl:∀ j,j < t.size→X.turnN f a p 16 j < 256:=fun j _=>X.turnN_lt (by rw [Hf.out]; exact byA_lt _) a p _ j
   have HR:=Lib.hid (turn_differ Hf.out HE.out (p:=p) k)
   go_wp2_with fail
   refine (HM.out _).mono ?_
   rintro e W2 ⟨rfl,hC⟩
   have hB2:=hbl.trans (hC.mono hbl.size)
   have hby2:=hby.below hC
   clear hC
   go_wp2_with (refine zso rfl (fun K hK=>wp_cvs (.tmp 75) rfl rfl hby2 hFl (hK _ _ ?_)))
   simp only [Stop,Act.put,zzC,zzD,zzE]
   go_wp2_with fail
   refine (cmore_any k _ _ _ Hk.out HU.out (by show (X.byF (X.turnN f a p 16) t.size).toArray.size≤_; rw [List.size_toArray,X.byF_len]; omega)).mono ?_
   rintro e W3 ⟨rfl,hC⟩
   have hBB:=hB2.trans (hC.mono hB2.size)
   clear hC hB2
   obtain ⟨y,hy⟩:∃ y:Int,y=(X.csB k (X.byF (X.turnN f a p 16) t.size):Nat):=⟨_,rfl⟩
   have hR:=HR.out
   rw [← HV.out,← hy] at hR
   rw [show (X.csB k (⟨(X.byF (X.turnN f a p 16) t.size).toArray⟩:ByteArray).data.toList)=X.csB k (X.byF (X.turnN f a p 16) t.size) from rfl,← hy]
   clear hy HR
   cases hq:anyN p 16
   ·
    rw [hq] at hR
    go_wp2
    go_ret
    exact ⟨rfl,hBB⟩
   ·
    rw [hq] at hR
    go_wp2
    go_ret
    exact ⟨rfl,hBB⟩
set_option maxRecDepth 100000 in
set_option maxHeartbeats 1600000 in
theorem CrcUnlike_lo (t:ByteArray) (u z pt:Int) (w:World) (hA:∀ W,Calls Try.prog 9 #[] W (PVal (.bool true) W)) (h:z < 0) :
  Calls Try.prog 8 #[.int .u16 u,.string t,.int .i64 z,.int .u16 pt] w (PVal (.bool true) w):=by
 have HA:=Lib.hid hA
 clear hA
 have hB:=Below.refl w.heap.size w
 have e1:decide (z < 0)=true:=decide_eq_true h
 go_enter Try.func8,Try.ntmps8
 go_wp2_with fail
 refine (HA.out _).mono ?_
 rintro e0 Z0 ⟨rfl,hC⟩
 replace hB:=hB.trans (hC.mono hB.size)
 clear hC
 go_wp2
 go_ret
 exact ⟨rfl,hB⟩
set_option maxRecDepth 100000 in
set_option maxHeartbeats 1600000 in
theorem CrcUnlike_hi (t:ByteArray) (u z pt:Int) (w:World) (hA:∀ W,Calls Try.prog 9 #[] W (PVal (.bool true) W)) (h0:¬ z < 0) (h:8*(t.size:Int)≤z) (ht:t.size≤281474976710656) :
  Calls Try.prog 8 #[.int .u16 u,.string t,.int .i64 z,.int .u16 pt] w (PVal (.bool true) w):=by
 have HA:=Lib.hid hA
 clear hA
 have hB:=Below.refl w.heap.size w
 have e1:decide (z < 0)=false:=decide_eq_false h0
 have e2:decide (8*(t.size:Int)≤z)=true:=decide_eq_true h
 go_enter Try.func8,Try.ntmps8
 go_wp2_with fail
 refine (HA.out _).mono ?_
 rintro e0 Z0 ⟨rfl,hC⟩
 replace hB:=hB.trans (hC.mono hB.size)
 clear hC
 go_wp2
 go_ret
 exact ⟨rfl,hB⟩
set_option maxRecDepth 100000 in
set_option maxHeartbeats 1600000 in
theorem CrcUnlike_lg (t:ByteArray) (u z pt:Int) (w:World) (hA:∀ W,Calls Try.prog 9 #[] W (PVal (.bool true) W)) (h0:¬ z < 0) (h1:¬ 8*(t.size:Int)≤z) (h:100000 < (t.size:Int)) (ht:t.size≤281474976710656) :
  Calls Try.prog 8 #[.int .u16 u,.string t,.int .i64 z,.int .u16 pt] w (PVal (.bool true) w):=by
 have HA:=Lib.hid hA
 clear hA
 have hB:=Below.refl w.heap.size w
 have e1:decide (z < 0)=false:=decide_eq_false h0
 have e2:decide (8*(t.size:Int)≤z)=false:=decide_eq_false h1
 have e3:decide (100000 < (t.size:Int))=true:=decide_eq_true h
 go_enter Try.func8,Try.ntmps8
 go_wp2_with fail
 refine (HA.out _).mono ?_
 rintro e0 Z0 ⟨rfl,hC⟩
 replace hB:=hB.trans (hC.mono hB.size)
 clear hC
 go_wp2
 go_ret
 exact ⟨rfl,hB⟩
theorem CrcUnlike_any (u:Int) (s:ByteArray) (z pt:Int) (w:World) (u0:0≤u) (u1:u≤65535) (hs:s.size≤140737488355328) (z0:-9223372036854775808≤z) (z1:z≤9223372036854775807) (p0:0≤pt) (p1:pt≤65535):Calls Try.prog 8 #[.int .u16 u,.string s,.int .i64 z,.int .u16 pt] w (PVal (.bool true) w):=by
 by_cases h:z < 0
 ·
  exact CrcUnlike_lo s u z pt w cawake_any h
 by_cases h2:8*(s.size:Int)≤z
 ·
  exact CrcUnlike_hi s u z pt w cawake_any h h2 (by omega)
 by_cases h3:100000 < (s.size:Int)
 ·
  exact CrcUnlike_lg s u z pt w cawake_any h h2 h3 (by omega)
 ·
  obtain ⟨a,rfl⟩:=Int.eq_ofNat_of_zero_le (show 0≤z by omega)
  obtain ⟨n,rfl⟩:=Int.eq_ofNat_of_zero_le p0
  obtain ⟨k,rfl⟩:=Int.eq_ofNat_of_zero_le u0
  exact CrcUnlike_in s k _ a n a n k w cawake_any (fun W=>cmore_any k s _ W (by omega) rfl (by omega)) rfl rfl rfl (by omega) rfl (by omega) (by omega) (by omega) (by omega)
end Go.Proofs.Ytgallhpfabedoaa
