/- Parts of the proof. -/
import Derived.Test.YtadbijfjfoeojaaJf0
import Derived.Test.YtadbijfjfoeojaaJf2
import Derived.Laws.IdiomStrings
import Derived.Test.YtadbijfjfoeojaaJf17
import Derived.Test.YtadbijfjfoeojaaJf4
import Derived.Test.YtadbijfjfoeojaaJf1
import Derived.Test.YtadbijfjfoeojaaJf10
import Derived.Test.YtadbijfjfoeojaaJf6
set_option linter.unusedSimpArgs false
set_option linter.unusedVariables false
/- The document's check sums: the walks of Seal, Right. No statement of the seat is proved here. -/
namespace Go.Proofs.Ytadbijfjfoeojaa
open Go Go.RowKit
theorem ul42:Try.prog.underlying 42=some (.slice 5):=by kernel_rfl
/-- Two bytes in new memory, as a text. -/
theorem str_two (w:World) (a b:Int) (x y:UInt8) (ha:a=(x.toNat:Nat)) (hb:b=(y.toNat:Nat)) :
  (convert 42 9 (.slice (some ⟨w.heap.size,0,none⟩) 2 2)).run Try.prog (w.alloc (.cells #[.int .u8 a,.int .u8 b] 5))=.ok (.string ⟨#[x,y]⟩) (w.alloc (.cells #[.int .u8 a,.int .u8 b] 5)):=by
 subst ha hb
 have hc:(w.alloc (.cells #[.int .u8 (x.toNat:Nat),.int .u8 (y.toNat:Nat)] 5)).heap[w.heap.size]?=some (.cells #[.int .u8 (x.toNat:Nat),.int .u8 (y.toNat:Nat)] 5 (0,0)):=heap_new w _
 exact run_convert_bytes_back (P:=Try.prog) _ 42 9 5 ⟨w.heap.size,0,none⟩ 2 [x,y] ul42 (by kernel_rfl) (by kernel_rfl) (fun j hj=>by
  have hj':j=0∨j=1:=by simp at hj; omega
  rcases hj' with rfl | rfl
  ·
   show World.cell? _ ⟨w.heap.size,0,none⟩=_
   unfold World.cell?
   simp only [hc]
   rfl
  ·
   show World.cell? _ ⟨w.heap.size,1,none⟩=_
   unfold World.cell?
   simp only [hc]
   rfl)
theorem app_two (s:ByteArray) (n:Nat) {l:List UInt8} (h:s.data.toList++X.twoB n=l):s++(⟨#[UInt8.ofNat (n / 256),UInt8.ofNat (n % 256)]⟩:ByteArray)=⟨l.toArray⟩:=by
 subst h
 refine ByteArray.ext ?_
 rw [ByteArray.data_append]
 refine Array.ext' ?_
 simp [X.twoB]
/-- A text, sealed. -/
def sealS (s:ByteArray):ByteArray:=⟨(X.sealB s.data.toList).toArray⟩
theorem seal_eq (s:ByteArray):s++(⟨#[UInt8.ofNat (X.csB 65535 s.data.toList / 256),UInt8.ofNat (X.csB 65535 s.data.toList % 256)]⟩:ByteArray)=sealS s:=app_two s _ rfl
set_option maxHeartbeats 1600000 in
theorem rseal_w (s t r:ByteArray) (n:Int) (w:World) (hs:s.size≤4611686018427387904) (ht:t.size=2) (h:0≤n∧n < 65536) (hof:∀ W,Calls Try.prog 24 #[.string s] W (PEq (.int .i64 n) W)) (hr:s++t=r)
  (hcv:(convert 42 9 (.slice (some ⟨w.heap.size,0,none⟩) 2 2)).run Try.prog (w.alloc (.cells #[.int .u8 (n / 256),.int .u8 (n % 256)] 5))=.ok (.string t) (w.alloc (.cells #[.int .u8 (n / 256),.int .u8 (n % 256)] 5))) :
  Calls Try.prog 19 #[.string s] w (PVal (.string r) w):=by
 have HC:=Lib.hid hof
 clear hof
 go_enter Try.func19,Try.ntmps19
 go_wp2_with fail
 refine (HC.out _).mono ?_
 rintro e w' ⟨rfl,rfl⟩
 go_wp2
 go_ret
 exact ⟨rfl,(Below.refl _ _).alloc (Nat.le_refl _) _⟩
theorem rseal_any (s:ByteArray) (w:World) (hs:s.size≤4611686018427387904):Calls Try.prog 19 #[.string s] w (PVal (.string (sealS s)) w):=by
 have hl:=X.csB_lt s.data.toList (show 65535 < 65536 by decide)
 obtain ⟨e1,e2⟩:=X.twoB_at hl
 exact rseal_w s _ _ _ w hs rfl (by omega) (fun W=>rof_any s W hs) (seal_eq s) (str_two w _ _ _ _ (by rw [e1]; omega) (by rw [e2]; omega))
set_option maxHeartbeats 1600000 in
theorem rright_short (s:ByteArray) (w:World) (hs:s.size≤4611686018427387904) (h:s.size < 2):Calls Try.prog 22 #[.string s] w (PVal (.bool false) w):=by
 go_enter Try.func22,Try.ntmps22
 go_wp2
 go_ret
 exact ⟨rfl,Below.refl _ _⟩
set_option maxHeartbeats 1600000 in
theorem rright_long (s t:ByteArray) (b:Bool) (w:World) (hs:s.size≤4611686018427387904) (h:2≤s.size) (hse:∀ W,Calls Try.prog 19 #[.string (s.extract 0 (s.size - 2))] W (PVal (.string t) W)) (hb:(t.toList == s.toList)=b):Calls Try.prog 22 #[.string s] w (PVal (.bool b) w):=by
 have HC:=Lib.hid hse
 clear hse
 go_enter Try.func22,Try.ntmps22
 go_wp2_with fail
 refine (HC.out _).mono ?_
 rintro e w' ⟨rfl,hB⟩
 go_wp2
 go_ret
 exact ⟨rfl,hB⟩
theorem seal_size (s:ByteArray):(sealS s).size=s.size+2:=by
 show (X.sealB s.data.toList).toArray.size=_
 rw [List.size_toArray,X.seal_len]
 rfl
/-- Is a text sealed? -/
def rightS (s:ByteArray):Bool:=X.rightB s.data.toList
theorem extract_list (s:ByteArray) (k:Nat):(s.extract 0 k).data.toList=s.data.toList.take k:=by
 rw [ByteArray.data_extract,Array.toList_extract]
 simp
theorem right_long {s:ByteArray} (h:2≤s.size):((sealS (s.extract 0 (s.size - 2))).toList == s.toList)=rightS s:=by
 have hl:s.data.toList.length=s.size:=rfl
 unfold rightS X.rightB
 rw [hl,decide_eq_true h,Bool.true_and]
 unfold sealS
 rw [extract_list]
 generalize X.sealB (List.take (s.size - 2) s.data.toList)=m
 rw [Lib.toList_data,Lib.toList_data,Bool.eq_iff_iff,beq_iff_eq,decide_eq_true_iff]
theorem right_short {s:ByteArray} (h:s.size < 2):rightS s=false:=by
 have hl:s.data.toList.length=s.size:=rfl
 unfold rightS X.rightB
 rw [hl,decide_eq_false (by omega)]
 rfl
theorem rright_any (s:ByteArray) (w:World) (hs:s.size≤4611686018427387900):Calls Try.prog 22 #[.string s] w (PVal (.bool (rightS s)) w):=by
 by_cases h:s.size < 2
 ·
  rw [right_short h]
  exact rright_short s w (by omega) h
 ·
  exact rright_long s _ _ w (by omega) (by omega) (fun W=>rseal_any _ W (by simp; omega)) (right_long (by omega))
/-- A slice of two made since. -/
def Asl2 (x y:Value) (T:TypeId) (v:Value) (W:World):Prop:=∃ b,v=.slice (some ⟨b,0,none⟩) 2 2∧W.heap[b]?=some (.cells #[x,y] T (0,0))
theorem Asl2.later {x y:Value} {T:TypeId} {v:Value} {W W':World} (h:Asl2 x y T v W) (hb:Below W.heap.size W W'):Asl2 x y T v W':=by
 obtain ⟨b,e,h1⟩:=h
 exact ⟨b,e,by rw [hb.block b (Array.getElem?_eq_some_iff.1 h1).1,h1]⟩
theorem asl2_new (x y:Value) (T:TypeId) (W:World):Asl2 x y T (.slice (some ⟨W.heap.size,0,none⟩) 2 2) (W.alloc (.cells #[x,y] T)):=⟨_,rfl,heap_new W _⟩
theorem str_two_at {W:World} {b:Nat} {x y:UInt8} (hc:W.heap[b]?=some (.cells #[.int .u8 (x.toNat:Nat),.int .u8 (y.toNat:Nat)] 5 (0,0))) :
  (convert 42 9 (.slice (some ⟨b,0,none⟩) 2 2)).run Try.prog W=.ok (.string ⟨#[x,y]⟩) W :=
 run_convert_bytes_back (P:=Try.prog) _ 42 9 5 ⟨b,0,none⟩ 2 [x,y] ul42 (by kernel_rfl) (by kernel_rfl) (fun j hj=>by
  have hj':j=0∨j=1:=by simp at hj; omega
  rcases hj' with rfl | rfl
  ·
   show World.cell? _ ⟨b,0,none⟩=_
   unfold World.cell?
   simp only [hc]
   rfl
  ·
   show World.cell? _ ⟨b,1,none⟩=_
   unfold World.cell?
   simp only [hc]
   rfl)
/-- A frame's bytes. -/
def headB (k:UInt8) (s:ByteArray):ByteArray:=⟨#[k,UInt8.ofNat s.size]⟩++s
def wrapS (k:UInt8) (s:ByteArray):ByteArray:=⟨#[165,90]⟩++sealS (headB k s)
theorem head_size (k:UInt8) (s:ByteArray):(headB k s).size=s.size+2:=by
 unfold headB
 rw [ByteArray.size_append]
 show 2+s.size=_
 omega
theorem wrap_size (k:UInt8) (s:ByteArray):(wrapS k s).size=s.size+6:=by
 unfold wrapS
 rw [ByteArray.size_append,seal_size,head_size]
 show 2+(s.size+2+2)=_
 omega
set_option maxHeartbeats 1600000 in
theorem rwrap_long (k:Int) (s:ByteArray) (w:World) (hs:s.size≤4611686018427387904) (h:64 < s.size):Calls Try.prog 11 #[.int .u8 k,.string s] w (PVal (.tuple #[.string ⟨#[]⟩,.int .i64 2]) w):=by
 have d:decide (64 < (s.size:Int))=true:=decide_eq_true (by omega)
 go_enter Try.func11,Try.ntmps11
 go_wp2
 exact bodyPost_ret (v:=.tuple #[.string ⟨#[]⟩,.int .i64 2]) (by simp [results,Try.results11,go_sem]) rfl ⟨rfl,Below.refl _ _⟩
set_option maxRecDepth 100000 in
set_option maxHeartbeats 3200000 in
theorem rwrap_w (k:Int) (s p m r t:ByteArray) (w:World) (h:s.size≤64) (hcv:(convert 42 9 (.slice (some ⟨w.heap.size,0,none⟩) 2 2)).run Try.prog (w.alloc (.cells #[.int .u8 k,.int .u8 (s.size:Nat)] 5))=.ok (.string p) (w.alloc (.cells #[.int .u8 k,.int .u8 (s.size:Nat)] 5)))
  (hp:p.size=2) (hm:p++s=m) (hr:r.size≤100) (ht:(⟨#[165,90]⟩:ByteArray)++r=t) (hS:∀ W,Calls Try.prog 19 #[.string m] W (PVal (.string r) W)) :
  Calls Try.prog 11 #[.int .u8 k,.string s] w (PVal (.tuple #[.string t,.int .i64 0]) w):=by
 have d:decide (64 < (s.size:Int))=false:=decide_eq_false (by omega)
 have HS:=Lib.hid hS
 have h2:(⟨#[165,90]⟩:ByteArray).size=2:=rfl
 clear hS
 go_enter Try.func11,Try.ntmps11
 go_wp2
 have hB0:Below w.heap.size w (w.alloc (.cells #[.int .u8 k,.int .u8 (s.size:Nat)] 5)):=(Below.refl _ _).alloc (Nat.le_refl _) _
 generalize w.alloc (.cells #[.int .u8 k,.int .u8 (s.size:Nat)] 5)=w1 at *
 refine wp_region_rel 5 [some 18,some 19,some 20,some 21,some 22] (lstP [Asl2 (.int .u8 165) (.int .u8 90) 5,Veq (.string ⟨#[165,90]⟩),Veq (.string m),Veq (.string r),Veq (.string t)]) (fun W=>Below w.heap.size w W) [] (by kernel_rfl) (by kernel_rfl) ?_ ?_ (hB0.drew) ?_ ?_
 ·
  intro j v W W' hj h hb
  obtain rfl | rfl | rfl | rfl | rfl:j=0∨j=1∨j=2∨j=3∨j=4:=by omega
  ·
   exact Asl2.later (show Asl2 (.int .u8 165) (.int .u8 90) 5 v W from h) hb
  ·
   exact Veq.later (show Veq (.string ⟨#[165,90]⟩) v W from h) hb
  ·
   exact Veq.later (show Veq (.string m) v W from h) hb
  ·
   exact Veq.later (show Veq (.string r) v W from h) hb
  ·
   exact Veq.later (show Veq (.string t) v W from h) hb
 ·
  intro j v W hj hm h
  cases hm
 ·
  intro i hl hi u W hJ hd
  obtain rfl | rfl | rfl | rfl | rfl:i=0∨i=1∨i=2∨i=3∨i=4:=by omega
  ·
   clear hd
   simp only [zzA,zzB]
   clear hl
   refine .inr ⟨rfl,fun K' hK=>?_⟩
   have HK:=Lib.hid hK
   clear hK
   simp only [layS,Act.put,zzC,zzD,zzE,Nat.zero_add,Nat.reduceAdd]
   go_simp
   have hB:Below W.heap.size W (W.alloc (.cells #[.int .u8 165,.int .u8 90] 5)):=(Below.refl _ _).alloc (Nat.le_refl _) _
   exact HK.out _ _ (.slice (some ⟨W.heap.size,0,none⟩) 2 2) (by simp [layS,updV,Act.put]) (hJ.trans (hB.mono hJ.size)) (asl2_new _ _ _ _) hB (fun h=>absurd h (by decide))
  ·
   obtain ⟨b0,e0,c0⟩:=(show Asl2 (.int .u8 165) (.int .u8 90) 5 (u 0) W from hd 0 (by decide) (by kernel_rfl))
   clear hd
   simp only [zzA,zzB]
   clear hl
   refine .inr ⟨rfl,fun K' hK=>?_⟩
   have HK:=Lib.hid hK
   clear hK
   simp only [layS,Act.put,zzC,zzD,zzE,Nat.zero_add,Nat.reduceAdd,e0]
   have E0:=Lib.hid e0
   clear e0
   have hcv:=str_two_at (x:=165) (y:=90) c0
   go_simp
   exact HK.out _ _ (.string ⟨#[165,90]⟩) (by simp [layS,updV,Act.put,E0.out]) hJ (rfl) (Below.refl _ _) (fun h=>absurd h (by decide))
  ·
   clear hd
   simp only [zzA,zzB]
   clear hl
   refine .inr ⟨rfl,fun K' hK=>?_⟩
   have HK:=Lib.hid hK
   clear hK
   simp only [layS,Act.put,zzC,zzD,zzE,Nat.zero_add,Nat.reduceAdd]
   go_simp
   exact HK.out _ _ (.string m) (by simp [layS,updV,Act.put]) hJ (rfl) (Below.refl _ _) (fun h=>absurd h (by decide))
  ·
   have e2:u 2=.string m:=hd 2 (by decide) (by kernel_rfl)
   clear hd
   simp only [zzA,zzB]
   clear hl
   refine .inr ⟨rfl,fun K' hK=>?_⟩
   have HK:=Lib.hid hK
   clear hK
   simp only [layS,Act.put,zzC,zzD,zzE,Nat.zero_add,Nat.reduceAdd,e2]
   have E2:=Lib.hid e2
   clear e2
   go_simp
   refine (HS.out W).mono ?_
   rintro e W' ⟨rfl,hB⟩
   exact HK.out _ _ (.string r) (by simp [layS,updV,Act.put,E2.out]) (hJ.trans (hB.mono hJ.size)) (rfl) hB (fun h=>absurd h (by decide))
  ·
   have e1:u 1=.string ⟨#[165,90]⟩:=hd 1 (by decide) (by kernel_rfl)
   have e3:u 3=.string r:=hd 3 (by decide) (by kernel_rfl)
   clear hd
   simp only [zzA,zzB]
   clear hl
   refine .inr ⟨rfl,fun K' hK=>?_⟩
   have HK:=Lib.hid hK
   clear hK
   simp only [layS,Act.put,zzC,zzD,zzE,Nat.zero_add,Nat.reduceAdd,e1,e3]
   have E1:=Lib.hid e1
   have E3:=Lib.hid e3
   clear e1 e3
   have hzz:¬ 9223372036854775807 < 2+r.size:=by omega
   go_simp
   exact HK.out _ _ (.string t) (by simp [layS,updV,Act.put,E1.out,E3.out]) hJ (rfl) (Below.refl _ _) (fun h=>absurd h (by decide))
 intro u W hJ hd hne
 obtain ⟨b0,e0,c0⟩:=(show Asl2 (.int .u8 165) (.int .u8 90) 5 (u 0) W from hd 0 (by decide))
 have e1:u 1=.string ⟨#[165,90]⟩:=hd 1 (by decide)
 have e2:u 2=.string m:=hd 2 (by decide)
 have e3:u 3=.string r:=hd 3 (by decide)
 have e4:u 4=.string t:=hd 4 (by decide)
 clear hd hne
 simp only [layS,Act.put,zzC,zzD,zzE,Nat.zero_add,Nat.reduceAdd,List.drop_succ_cons,List.drop_zero,e0,e1,e2,e3,e4]
 go_wp2
 exact bodyPost_ret (v:=.tuple #[.string t,.int .i64 0]) (by simp [results,Try.results11,go_sem]) rfl ⟨rfl,hJ⟩
theorem rwrap_any (k:UInt8) (s:ByteArray) (w:World) (h:s.size≤64):Calls Try.prog 11 #[.int .u8 (k.toNat:Nat),.string s] w (PVal (.tuple #[.string (wrapS k s),.int .i64 0]) w) :=
 rwrap_w _ s _ _ _ _ w h (str_two w _ _ k (UInt8.ofNat s.size) rfl (by simp; omega)) rfl rfl (by rw [seal_size,head_size]; omega) rfl (fun W=>rseal_any (headB k s) W (by rw [head_size]; omega))
section
variable {s:ByteArray} {i:Nat}
abbrev tl (s:ByteArray) (i:Nat):List UInt8:=s.data.toList.drop i
theorem tl_cons (h:i < s.size):tl s i=s[i] :: tl s (i+1):=List.drop_eq_getElem_cons (l:=s.data.toList) (i:=i) (by simpa using h)
theorem tl_end (h:s.size≤i):tl s i=[]:=List.drop_eq_nil_of_le (by simpa using h)
theorem tl_len:(tl s i).length=s.size - i:=by unfold tl; rw [List.length_drop]; rfl
theorem tl_take (a b:Nat) (hb:b≤s.size):(s.extract a b).data.toList=(tl s a).take (b - a):=by
 unfold tl
 rw [ByteArray.data_extract,Array.toList_extract,List.extract_eq_take_drop]
theorem stp_no {rt:List UInt8→Bool} {a:UInt8} {l:List UInt8} (h:a ≠ 165):W.stp rt (a :: l)=some (.drop,l):=if_neg h
theorem stp_yn {rt:List UInt8→Bool} {b:UInt8} {m:List UInt8} (h:b ≠ 90):W.stp rt (165 :: b :: m)=some (.drop,b :: m):=by
 show (if (165:UInt8)=165 then (if b=90 then W.body rt m else some (.drop,b :: m)) else some (.drop,b :: m))=_
 rw [if_pos rfl,if_neg h]
theorem stp_yy {rt:List UInt8→Bool} {m:List UInt8}:W.stp rt (165 :: 90 :: m)=W.body rt m:=by
 show (if (165:UInt8)=165 then (if (90:UInt8)=90 then W.body rt m else some (.drop,90 :: m)) else some (.drop,90 :: m))=_
 rw [if_pos rfl,if_pos rfl]
theorem rd_skip (h:i < s.size) (h1:s[i].toNat ≠ 165):W.stp X.rightB (tl s i)=some (.drop,tl s (i+1)):=by
 have hx:s[i] ≠ 165:=fun e=>h1 (by rw [e]; rfl)
 rw [tl_cons h]
 exact stp_no hx
theorem rd_end (h:i < s.size) (h1:s[i].toNat=165) (h2:i+1=s.size):W.stp X.rightB (tl s i)=none:=by
 have hx:s[i]=165:=UInt8.toNat_inj.1 h1
 rw [tl_cons h,hx,tl_end (by omega)]
 rfl
theorem rd_skip2 (h:i+1 < s.size) (h1:s[i].toNat=165) (h2:s[i+1].toNat ≠ 90):W.stp X.rightB (tl s i)=some (.drop,tl s (i+1)):=by
 have hx:s[i]=165:=UInt8.toNat_inj.1 h1
 have hy:s[i+1] ≠ 90:=fun e=>h2 (by rw [e]; rfl)
 rw [tl_cons (by omega),hx,tl_cons h]
 exact stp_yn hy
theorem rd_at (h:i+1 < s.size) (h1:s[i].toNat=165) (h2:s[i+1].toNat=90):W.stp X.rightB (tl s i)=W.body X.rightB (tl s (i+2)):=by
 have hx:s[i]=165:=UInt8.toNat_inj.1 h1
 have hy:s[i+1]=90:=UInt8.toNat_inj.1 h2
 rw [tl_cons (by omega),hx,tl_cons h,hy]
 exact stp_yy
theorem rd_short (h:i+1 < s.size) (h1:s[i].toNat=165) (h2:s[i+1].toNat=90) (h3:s.size≤i+3):W.stp X.rightB (tl s i)=none:=by
 rw [rd_at h h1 h2]
 have hl:(tl s (i+2)).length≤1:=by rw [tl_len]; omega
 match tl s (i+2),hl with
 | [],_=>rfl
 | [x],_=>rfl
theorem rd_body (h:i+3 < s.size):tl s (i+2)=s[i+2] :: s[i+3] :: tl s (i+4):=by
 rw [tl_cons (by omega),tl_cons h]
theorem rd_big (h:i+3 < s.size) (h1:s[i].toNat=165) (h2:s[i+1].toNat=90) (h3:64 < s[i+3].toNat):W.stp X.rightB (tl s i)=some (.bad,tl s (i+2)):=by
 rw [rd_at (by omega) h1 h2,rd_body h]
 unfold W.body
 simp only
 rw [if_pos h3]
theorem rd_wait (h:i+3 < s.size) (h1:s[i].toNat=165) (h2:s[i+1].toNat=90) (h3:¬ 64 < s[i+3].toNat) (h4:s.size < i+6+s[i+3].toNat):W.stp X.rightB (tl s i)=none:=by
 rw [rd_at (by omega) h1 h2,rd_body h]
 unfold W.body
 simp only
 rw [if_neg h3,if_pos (by rw [tl_len]; omega)]
theorem rd_text {n:Nat} (h:i+3 < s.size) (hn:s[i+3].toNat=n) (h4:i+6+n≤s.size):(s.extract (i+2) (i+6+n)).data.toList=s[i+2] :: s[i+3] :: (tl s (i+4)).take (n+2):=by
 rw [tl_take _ _ h4,rd_body h,show i+6+n - (i+2)=n+2+1+1 by omega]
 rfl
theorem rd_bad {n:Nat} (h:i+3 < s.size) (h1:s[i].toNat=165) (h2:s[i+1].toNat=90) (hn:s[i+3].toNat=n) (h3:¬ 64 < n) (h4:i+6+n≤s.size) (h5:rightS (s.extract (i+2) (i+6+n))=false):W.stp X.rightB (tl s i)=some (.bad,tl s (i+2)):=by
 unfold rightS at h5
 rw [rd_text h hn h4] at h5
 rw [rd_at (by omega) h1 h2,rd_body h]
 unfold W.body
 simp only
 rw [hn,if_neg h3,if_neg (by rw [tl_len]; omega),h5]
 simp
theorem rd_told {n:Nat} (h:i+3 < s.size) (h1:s[i].toNat=165) (h2:s[i+1].toNat=90) (hn:s[i+3].toNat=n) (h3:¬ 64 < n) (h4:i+6+n≤s.size) (h5:rightS (s.extract (i+2) (i+6+n))=true):W.stp X.rightB (tl s i)=some (.told s[i+2] (s.extract (i+4) (i+4+n)).data.toList,tl s (i+6+n)):=by
 unfold rightS at h5
 rw [rd_text h hn h4] at h5
 rw [rd_at (by omega) h1 h2,rd_body h,tl_take _ _ (by omega)]
 unfold W.body
 simp only
 rw [hn,if_neg h3,if_neg (by rw [tl_len]; omega),h5,show i+4+n - (i+4)=n by omega]
 simp only [if_true]
 unfold tl
 rw [List.drop_drop,show i+4+(n+2)=i+6+n by omega]
/-- What was told so far, and what is left to be read. -/
def SoFar (s:ByteArray) (fs:List (UInt8 × List UInt8)) (b i:Nat):Prop:=(fs++(W.run X.rightB (tl s i)).1,b+(W.run X.rightB (tl s i)).2.1,(W.run X.rightB (tl s i)).2.2)=W.run X.rightB s.data.toList
variable {fs:List (UInt8 × List UInt8)} {b j:Nat}
theorem far_start:SoFar s [] 0 0:=by
 unfold SoFar tl
 rw [List.drop_zero,List.nil_append,Nat.zero_add]
theorem far_drop (h:SoFar s fs b i) (e:W.stp X.rightB (tl s i)=some (.drop,tl s j)):SoFar s fs b j:=by
 unfold SoFar at *
 rw [W.run_some e] at h
 exact h
theorem far_bad (h:SoFar s fs b i) (e:W.stp X.rightB (tl s i)=some (.bad,tl s j)):SoFar s fs (b+1) j:=by
 unfold SoFar at *
 rw [W.run_some e] at h
 rw [← h]
 simp only [W.Ev.on]
 rw [show b+1+(W.run X.rightB (tl s j)).2.1=b+((W.run X.rightB (tl s j)).2.1+1) by omega]
theorem far_told {k:UInt8} {p:List UInt8} (h:SoFar s fs b i) (e:W.stp X.rightB (tl s i)=some (.told k p,tl s j)):SoFar s (fs++[(k,p)]) b j:=by
 unfold SoFar at *
 rw [W.run_some e] at h
 rw [← h]
 simp only [W.Ev.on]
 rw [List.append_assoc]
 rfl
theorem far_end (h:SoFar s fs b i) (e:W.stp X.rightB (tl s i)=none):W.run X.rightB s.data.toList=(fs,b,tl s i):=by
 unfold SoFar at h
 rw [W.run_none e] at h
 rw [← h,List.append_nil,Nat.add_zero]
theorem far_all (h:SoFar s fs b i) (hi:s.size≤i):W.run X.rightB s.data.toList=(fs,b,tl s i):=far_end h (by rw [tl_end hi]; rfl)
end
/-- Frames' cells. -/
def fcell (f:UInt8 × List UInt8):List Value:=[.int .u8 (f.1.toNat:Nat),.string ⟨f.2.toArray⟩]
def fcells (fs:List (UInt8 × List UInt8)):List Value:=fs.flatMap fcell
theorem fcells_snoc (fs:List (UInt8 × List UInt8)) (f:UInt8 × List UInt8):fcells fs++fcell f=fcells (fs++[f]):=by unfold fcells; rw [List.flatMap_append]; simp
theorem Try.finfo39:(Try.prog.info? 39).map (fun i=>(i.zero,i.size,i.bytes))=some (some (.agg #[.int .u8 0,.string ⟨#[]⟩]),2,24):=by kernel_rfl
theorem uf30:Try.prog.underlying 30=some (.slice 39):=by kernel_rfl
/-- A slice of one frame, made since. -/
def Afr (m:Nat) (x y:Value) (T:TypeId) (v:Value) (W:World):Prop:=∃ b,v=.slice (some ⟨b,0,none⟩) 1 1∧m≤b∧W.heap[b]?=some (.cells #[x,y] T (0,0))
theorem afr_new {m:Nat} {x y:Value} {T:TypeId} {W:World} (h:m≤W.heap.size):Afr m x y T (.slice (some ⟨W.heap.size,0,none⟩) 1 1) (W.alloc (.cells #[x,y] T)):=⟨_,rfl,h,heap_new W _⟩
theorem afr_cell {W:World} {b:Nat} {x y:Value} {T:TypeId} (hc:W.heap[b]?=some (.cells #[x,y] T (0,0))):∀ j u,[x,y][j]?=some u→W.cell? ((⟨b,0,none⟩:Addr).add j)=some u:=by
 intro j u h
 match j,h with
 | 0,h =>
  cases h
  show World.cell? _ ⟨b,0,none⟩=_
  unfold World.cell?
  simp only [hc]
  rfl
 | 1,h =>
  cases h
  show World.cell? _ ⟨b,1,none⟩=_
  unfold World.cell?
  simp only [hc]
  rfl
theorem run_bsf (x y:Value) (W:World):(Instr.buildSlice 30 1 #[(0,.agg #[x,y])]).run Try.prog W=.ok (.slice (some ⟨W.heap.size,0,none⟩) 1 1) (W.alloc (.cells #[x,y] 39)):=by kernel_rfl
theorem run_bf (x:Int) (p:ByteArray) (W:World):(Instr.build 39 #[(0,.int .u8 x),(1,.string p)]).run Try.prog W=.ok (.agg #[.int .u8 x,.string p]) W:=by kernel_rfl
theorem owns_below {w w':World} {base:Nat} {e:TypeId} {size:Nat} {v:Value} {n:Nat} {xs:List Value} (h:w.ownsRow base e size v n xs) (hb:Below w.heap.size w w'):w'.ownsRow base e size v n xs:=by
 obtain ⟨h1,h2⟩:=h
 refine ⟨h1,?_⟩
 rcases h2 with h2 | ⟨g,cap,cur,e1,hbase,hg,h3⟩
 ·
  exact .inl h2
 ·
  exact .inr ⟨g,cap,cur,e1,hbase,by rw [hb.block g (Array.getElem?_eq_some_iff.1 hg).1]; exact hg,h3⟩
/-- What is read of a text. -/
def RdEnd (s:ByteArray) (fs:List (UInt8 × List UInt8)) (b wt:Nat):Prop:=(W.run X.rightB s.data.toList).1=fs∧(W.run X.rightB s.data.toList).2.1=b∧(W.run X.rightB s.data.toList).2.2.length=wt
theorem rd_fin {s:ByteArray} {fs:List (UInt8 × List UInt8)} {b i:Nat} (h:W.run X.rightB s.data.toList=(fs,b,tl s i)):RdEnd s fs b (s.size - i):=by
 unfold RdEnd
 rw [h]
 exact ⟨rfl,rfl,tl_len⟩
def PRead (s:ByteArray) (w:World) (e:Ending) (w':World):Prop:=∃ fs b wt v,e=.returned (.tuple #[v,.int .i64 (b:Nat),.int .i64 (wt:Nat)])∧RdEnd s fs b wt∧w'.ownsRow w.heap.size 39 2 v fs.length (fcells fs)∧Below w.heap.size w w'
set_option maxRecDepth 100000 in
set_option maxHeartbeats 6400000 in
theorem rread_any (s:ByteArray) (w:World) (hs:s.size≤1000000000):Calls Try.prog 14 #[.string s] w (PRead s w):=by
 obtain ⟨i0,hi0,hz0,hzz1,hzz2⟩:=info_parts Try.finfo39
 have HI:=Lib.hid (And.intro hi0 (And.intro hz0 (And.intro hzz1 hzz2)))
 clear hi0 hz0 hzz1 hzz2
 go_enter Try.func14,Try.ntmps14
 go_wp2
 go_loopw [5,6,7] (fun ov bv iv wr=>∃ (i b:Nat) (fs:List (UInt8 × List UInt8)),(i≤s.size∧b≤i∧fs.length≤i)∧iv=.int .i64 i∧bv=.int .i64 b∧wr.ownsRow w.heap.size 39 2 ov fs.length (fcells fs)∧Hid (SoFar s fs b i)∧Below w.heap.size w wr) (fun _ _ iv _=>s.size - (intOf iv).toNat)
 case atStart=>exact ⟨0,0,[],⟨by omega,by omega,by simp⟩,rfl,rfl,World.ownsRow_nil _ _ _ _,far_start,Below.refl _ _⟩
 case round =>
  obtain ⟨i,b,fs,⟨hi,hbi,hfi⟩,rfl,rfl,how,HF,hbl⟩:=hrel
  by_cases hlt:i < s.size
  ·
   by_cases h1:s[i].toNat=165
   ·
    have H1:=Lib.hid h1
    have e1:(((s[i].toNat:Nat):Int) != 165)=false:=by rw [h1]; rfl
    clear h1
    by_cases hend:i+1=s.size
    ·
     have e2:(((i:Int)+1) == (s.size:Int))=true:=by simp; omega
     obtain ⟨wt,hwt⟩:∃ wt:Nat,wt=s.size - i:=⟨_,rfl⟩
     have HW:=Lib.hid hwt
     clear hwt
     have HE:Hid (RdEnd s fs b wt):=by rw [HW.out]; exact rd_fin (far_end HF.out (rd_end hlt H1.out hend))
     have hwi:(s.size:Int) - (i:Int)=(wt:Nat):=by have:=HW.out; omega
     go_wp2
     exact bodyPost_ret (v:=.tuple #[u5,.int .i64 (b:Nat),.int .i64 (wt:Nat)]) (by simp [results,Try.results14,go_sem]) rfl ⟨fs,b,wt,u5,rfl,HE.out,how,hbl⟩
    ·
     have e2:(((i:Int)+1) == (s.size:Int))=false:=by rw [beq_eq_false_iff_ne]; omega
     have k1:i+1 < s.size:=by omega
     by_cases h2:s[i+1].toNat=90
     ·
      have H2:=Lib.hid h2
      have e3:(((s[i+1].toNat:Nat):Int) != 90)=false:=by rw [h2]; rfl
      clear h2
      by_cases h3:s.size≤i+3
      ·
       have e4:decide ((s.size:Int)≤(i:Int)+3)=true:=decide_eq_true (by omega)
       obtain ⟨wt,hwt⟩:∃ wt:Nat,wt=s.size - i:=⟨_,rfl⟩
       have HW:=Lib.hid hwt
       clear hwt
       have HE:Hid (RdEnd s fs b wt):=by rw [HW.out]; exact rd_fin (far_end HF.out (rd_short k1 H1.out H2.out h3))
       have hwi:(s.size:Int) - (i:Int)=(wt:Nat):=by have:=HW.out; omega
       go_wp2
       exact bodyPost_ret (v:=.tuple #[u5,.int .i64 (b:Nat),.int .i64 (wt:Nat)]) (by simp [results,Try.results14,go_sem]) rfl ⟨fs,b,wt,u5,rfl,HE.out,how,hbl⟩
      ·
       have e4:decide ((s.size:Int)≤(i:Int)+3)=false:=decide_eq_false (by omega)
       have k3:i+3 < s.size:=by omega
       obtain ⟨n,hn⟩:∃ n:Nat,s[i+3].toNat=n:=⟨_,rfl⟩
       have HN:=Lib.hid hn
       have hn256:n < 256:=by rw [← hn]; exact s[i+3].toNat_lt
       by_cases h64:64 < n
       ·
        have e5:decide (64 < (n:Int))=true:=decide_eq_true (by omega)
        have HF2:=Lib.hid (far_bad HF.out (rd_big k3 H1.out H2.out (by rw [hn]; exact h64)))
        go_wp2
        go_roundw
        case rel=>exact ⟨i+2,b+1,fs,⟨by omega,by omega,by omega⟩,by go_num,by go_num,how,HF2,hbl⟩
        case measure=>simp [intOf]; omega
       ·
        have e5:decide (64 < (n:Int))=false:=decide_eq_false (by omega)
        by_cases hw:s.size < i+6+n
        ·
         have e6:decide ((s.size:Int) < (i:Int)+6+(n:Int))=true:=decide_eq_true (by omega)
         obtain ⟨wt,hwt⟩:∃ wt:Nat,wt=s.size - i:=⟨_,rfl⟩
         have HW:=Lib.hid hwt
         clear hwt
         have HE:Hid (RdEnd s fs b wt):=by rw [HW.out]; exact rd_fin (far_end HF.out (rd_wait k3 H1.out H2.out (by rw [hn]; exact h64) (by rw [hn]; exact hw)))
         have hwi:(s.size:Int) - (i:Int)=(wt:Nat):=by have:=HW.out; omega
         go_wp2
         exact bodyPost_ret (v:=.tuple #[u5,.int .i64 (b:Nat),.int .i64 (wt:Nat)]) (by simp [results,Try.results14,go_sem]) rfl ⟨fs,b,wt,u5,rfl,HE.out,how,hbl⟩
        ·
         have e6:decide ((s.size:Int) < (i:Int)+6+(n:Int))=false:=decide_eq_false (by omega)
         have hR:=fun W=>rright_any (s.extract (i+2) (i+6+n)) W (by rw [ByteArray.size_extract]; omega)
         cases hr:rightS (s.extract (i+2) (i+6+n))
         ·
          rw [hr] at hR
          have HR:=Lib.hid hR
          have HF2:=Lib.hid (far_bad HF.out (rd_bad k3 H1.out H2.out hn h64 (by omega) hr))
          clear hR hr
          go_wp2_with fail
          refine (HR.out _).mono ?_
          rintro er wr2 ⟨rfl,hC⟩
          have how2:=owns_below how hC
          have hbl2:=hbl.trans (hC.mono hbl.size)
          clear hC how hbl
          go_wp2
          go_roundw
          case rel=>exact ⟨i+2,b+1,fs,⟨by omega,by omega,by omega⟩,by go_num,by go_num,how2,HF2,hbl2⟩
          case measure=>simp [intOf]; omega
         ·
          rw [hr] at hR
          have HR:=Lib.hid hR
          have HF2:=Lib.hid (far_told HF.out (rd_told k3 H1.out H2.out hn h64 (by omega) hr))
          clear hR hr
          go_wp2_with fail
          refine (HR.out _).mono ?_
          rintro er wr2 ⟨rfl,hC⟩
          replace how:=owns_below how hC
          replace hbl:=hbl.trans (hC.mono hbl.size)
          clear hC
          obtain ⟨ov,hov⟩:∃ ov,ov=u5:=⟨_,rfl⟩
          rw [← hov] at how
          rw [← hov]
          clear hov
          obtain ⟨p,hp⟩:∃ p,s.extract (i+4) (i+4+n)=p:=⟨_,rfl⟩
          have HP:=Lib.hid hp
          have k2:i+2 < s.size:=by omega
          have hw1:IntKind.i64.wrap ((i:Int)+2)=(i:Int)+2:=IntWalk.i64_in _ ⟨by omega,by omega⟩
          have hw2:IntKind.i64.wrap ((i:Int)+4)=(i:Int)+4:=IntWalk.i64_in _ ⟨by omega,by omega⟩
          have hw3:IntKind.i64.wrap ((i:Int)+4+(n:Int))=(i:Int)+4+(n:Int):=IntWalk.i64_in _ ⟨by omega,by omega⟩
          have ht1:((i:Int)+2).toNat=i+2:=by omega
          have ht2:((i:Int)+4).toNat=i+4:=by omega
          have ht3:((i:Int)+4+(n:Int)).toNat=i+4+n:=by omega
          go_wp2
          refine wp_region_valsB5 15 14 [some 70,some 71,some 72,some 73,some 74,some 75,some 76,some 77,some 78,some 79,some 80,some 81,some 82,some 83,some 84] (lstV [ov,.string s,.int .i64 (i:Nat),.int .i64 ((i:Int)+2),.int .u8 ((s[i+2]'k2).toNat:Nat),.string s,.int .i64 (i:Nat),.int .i64 ((i:Int)+4),.int .i64 (i:Nat),.int .i64 ((i:Int)+4),.int .i64 (n:Nat),.int .i64 ((i:Int)+4+(n:Nat)),.string p,.agg #[.int .u8 ((s[i+2]'k2).toNat:Nat),.string p],undef]) (fun W=>W.ownsRow w.heap.size 39 2 ov fs.length (fcells fs)∧Below w.heap.size w W) (Afr w.heap.size (.int .u8 ((s[i+2]'k2).toNat:Nat)) (.string p) 39) (by kernel_rfl) (by kernel_rfl) (by decide) (by decide) (⟨how.drew,hbl.drew⟩) ?_ ?_ ?_
          ·
           intro hl u W hJ hd
           have e13:u 13=.agg #[.int .u8 ((s[i+2]'k2).toNat:Nat),.string p]:=hd 13 (by decide) (by kernel_rfl)
           clear hd
           simp only [zzA,zzB]
           clear hl
           refine ⟨rfl,fun K' hK=>?_⟩
           have HK:=Lib.hid hK
           clear hK
           simp only [layS,Act.put,zzC,zzD,zzE,Nat.zero_add,Nat.reduceAdd,e13]
           have E13:=Lib.hid e13
           clear e13
           have hbs:=run_bsf (.int .u8 ((s[i+2]'k2).toNat:Nat)) (.string p) W
           go_simp
           exact HK.out _ _ (.slice (some ⟨W.heap.size,0,none⟩) 1 1) (by simp [layS,updV,lstV,Act.put,E13.out]) ⟨hJ.1.alloc _,hJ.2.alloc hJ.2.size _⟩ (afr_new hJ.2.size)
          ·
           intro q hl hi hne u W hJ hd
           obtain rfl | rfl | rfl | rfl | rfl | rfl | rfl | rfl | rfl | rfl | rfl | rfl | rfl | rfl | rfl:q=0∨q=1∨q=2∨q=3∨q=4∨q=5∨q=6∨q=7∨q=8∨q=9∨q=10∨q=11∨q=12∨q=13∨q=14:=by omega
           ·
            clear hd
            simp only [zzA,zzB]
            clear hl hne
            refine .inr ⟨rfl,fun K' hK=>?_⟩
            have HK:=Lib.hid hK
            clear hK
            simp only [layS,Act.put,zzC,zzD,zzE,Nat.zero_add,Nat.reduceAdd]
            go_simp
            exact HK.out _ _ (by simp [layS,updV,lstV,Act.put]) hJ (fun v hv=>hv)
           ·
            clear hd
            simp only [zzA,zzB]
            clear hl hne
            refine .inr ⟨rfl,fun K' hK=>?_⟩
            have HK:=Lib.hid hK
            clear hK
            simp only [layS,Act.put,zzC,zzD,zzE,Nat.zero_add,Nat.reduceAdd]
            go_simp
            exact HK.out _ _ (by simp [layS,updV,lstV,Act.put]) hJ (fun v hv=>hv)
           ·
            clear hd
            simp only [zzA,zzB]
            clear hl hne
            refine .inr ⟨rfl,fun K' hK=>?_⟩
            have HK:=Lib.hid hK
            clear hK
            simp only [layS,Act.put,zzC,zzD,zzE,Nat.zero_add,Nat.reduceAdd]
            go_simp
            exact HK.out _ _ (by simp [layS,updV,lstV,Act.put]) hJ (fun v hv=>hv)
           ·
            have e2:u 2=.int .i64 (i:Nat):=hd 2 (by decide) (by kernel_rfl)
            clear hd
            simp only [zzA,zzB]
            clear hl hne
            refine .inr ⟨rfl,fun K' hK=>?_⟩
            have HK:=Lib.hid hK
            clear hK
            simp only [layS,Act.put,zzC,zzD,zzE,Nat.zero_add,Nat.reduceAdd,e2]
            have E2:=Lib.hid e2
            clear e2
            go_simp
            exact HK.out _ _ (by simp [layS,updV,lstV,Act.put,E2.out]) hJ (fun v hv=>hv)
           ·
            have e1:u 1=.string s:=hd 1 (by decide) (by kernel_rfl)
            have e3:u 3=.int .i64 ((i:Int)+2):=hd 3 (by decide) (by kernel_rfl)
            clear hd
            simp only [zzA,zzB]
            clear hl hne
            refine .inr ⟨rfl,fun K' hK=>?_⟩
            have HK:=Lib.hid hK
            clear hK
            simp only [layS,Act.put,zzC,zzD,zzE,Nat.zero_add,Nat.reduceAdd,e1,e3]
            have E1:=Lib.hid e1
            have E3:=Lib.hid e3
            clear e1 e3
            have hq1:0≤(i:Int)+2:=by omega
            have hq4:(i:Int)+2 < (s.size:Int):=by omega
            go_simp
            exact HK.out _ _ (by simp [layS,updV,lstV,Act.put,E1.out,E3.out]) hJ (fun v hv=>hv)
           ·
            clear hd
            simp only [zzA,zzB]
            clear hl hne
            refine .inr ⟨rfl,fun K' hK=>?_⟩
            have HK:=Lib.hid hK
            clear hK
            simp only [layS,Act.put,zzC,zzD,zzE,Nat.zero_add,Nat.reduceAdd]
            go_simp
            exact HK.out _ _ (by simp [layS,updV,lstV,Act.put]) hJ (fun v hv=>hv)
           ·
            clear hd
            simp only [zzA,zzB]
            clear hl hne
            refine .inr ⟨rfl,fun K' hK=>?_⟩
            have HK:=Lib.hid hK
            clear hK
            simp only [layS,Act.put,zzC,zzD,zzE,Nat.zero_add,Nat.reduceAdd]
            go_simp
            exact HK.out _ _ (by simp [layS,updV,lstV,Act.put]) hJ (fun v hv=>hv)
           ·
            have e6:u 6=.int .i64 (i:Nat):=hd 6 (by decide) (by kernel_rfl)
            clear hd
            simp only [zzA,zzB]
            clear hl hne
            refine .inr ⟨rfl,fun K' hK=>?_⟩
            have HK:=Lib.hid hK
            clear hK
            simp only [layS,Act.put,zzC,zzD,zzE,Nat.zero_add,Nat.reduceAdd,e6]
            have E6:=Lib.hid e6
            clear e6
            go_simp
            exact HK.out _ _ (by simp [layS,updV,lstV,Act.put,E6.out]) hJ (fun v hv=>hv)
           ·
            clear hd
            simp only [zzA,zzB]
            clear hl hne
            refine .inr ⟨rfl,fun K' hK=>?_⟩
            have HK:=Lib.hid hK
            clear hK
            simp only [layS,Act.put,zzC,zzD,zzE,Nat.zero_add,Nat.reduceAdd]
            go_simp
            exact HK.out _ _ (by simp [layS,updV,lstV,Act.put]) hJ (fun v hv=>hv)
           ·
            have e8:u 8=.int .i64 (i:Nat):=hd 8 (by decide) (by kernel_rfl)
            clear hd
            simp only [zzA,zzB]
            clear hl hne
            refine .inr ⟨rfl,fun K' hK=>?_⟩
            have HK:=Lib.hid hK
            clear hK
            simp only [layS,Act.put,zzC,zzD,zzE,Nat.zero_add,Nat.reduceAdd,e8]
            have E8:=Lib.hid e8
            clear e8
            go_simp
            exact HK.out _ _ (by simp [layS,updV,lstV,Act.put,E8.out]) hJ (fun v hv=>hv)
           ·
            clear hd
            simp only [zzA,zzB]
            clear hl hne
            refine .inr ⟨rfl,fun K' hK=>?_⟩
            have HK:=Lib.hid hK
            clear hK
            simp only [layS,Act.put,zzC,zzD,zzE,Nat.zero_add,Nat.reduceAdd]
            go_simp
            exact HK.out _ _ (by simp [layS,updV,lstV,Act.put]) hJ (fun v hv=>hv)
           ·
            have e9:u 9=.int .i64 ((i:Int)+4):=hd 9 (by decide) (by kernel_rfl)
            have e10:u 10=.int .i64 (n:Nat):=hd 10 (by decide) (by kernel_rfl)
            clear hd
            simp only [zzA,zzB]
            clear hl hne
            refine .inr ⟨rfl,fun K' hK=>?_⟩
            have HK:=Lib.hid hK
            clear hK
            simp only [layS,Act.put,zzC,zzD,zzE,Nat.zero_add,Nat.reduceAdd,e9,e10]
            have E9:=Lib.hid e9
            have E10:=Lib.hid e10
            clear e9 e10
            go_simp
            exact HK.out _ _ (by simp [layS,updV,lstV,Act.put,E9.out,E10.out]) hJ (fun v hv=>hv)
           ·
            have e5:u 5=.string s:=hd 5 (by decide) (by kernel_rfl)
            have e7:u 7=.int .i64 ((i:Int)+4):=hd 7 (by decide) (by kernel_rfl)
            have e11:u 11=.int .i64 ((i:Int)+4+(n:Nat)):=hd 11 (by decide) (by kernel_rfl)
            clear hd
            simp only [zzA,zzB]
            clear hl hne
            refine .inr ⟨rfl,fun K' hK=>?_⟩
            have HK:=Lib.hid hK
            clear hK
            simp only [layS,Act.put,zzC,zzD,zzE,Nat.zero_add,Nat.reduceAdd,e5,e7,e11]
            have E5:=Lib.hid e5
            have E7:=Lib.hid e7
            have E11:=Lib.hid e11
            clear e5 e7 e11
            have hq2:0≤(i:Int)+4+(n:Int)∧(i:Int)+4+(n:Int)≤(s.size:Int):=by omega
            have hq3:0≤(i:Int)+4∧(i:Int)+4≤(i:Int)+4+(n:Int):=by omega
            go_simp
            exact HK.out _ _ (by simp [layS,updV,lstV,Act.put,E5.out,E7.out,E11.out]) hJ (fun v hv=>hv)
           ·
            have e4:u 4=.int .u8 ((s[i+2]'k2).toNat:Nat):=hd 4 (by decide) (by kernel_rfl)
            have e12:u 12=.string p:=hd 12 (by decide) (by kernel_rfl)
            clear hd
            simp only [zzA,zzB]
            clear hl hne
            refine .inr ⟨rfl,fun K' hK=>?_⟩
            have HK:=Lib.hid hK
            clear hK
            simp only [layS,Act.put,zzC,zzD,zzE,Nat.zero_add,Nat.reduceAdd,e4,e12]
            have E4:=Lib.hid e4
            have E12:=Lib.hid e12
            clear e4 e12
            have hbf:=run_bf (s[i+2].toNat:Nat) p W
            go_simp
            exact HK.out _ _ (by simp [layS,updV,lstV,Act.put,E4.out,E12.out]) hJ (fun v hv=>hv)
           ·
            exact absurd rfl hne
          intro W va hJ hA
          obtain ⟨bq,rfl,hbq,hbk⟩:=hA
          simp only [layS,updV,lstV,if_true,if_false,reduceIte,Nat.reduceEqDiff,Act.put,zzC,zzD,zzE,Nat.zero_add,Nat.reduceAdd,List.getD_cons_zero,List.getD_cons_succ,List.drop_succ_cons,List.drop_zero,List.drop_nil]
          replace how:=hJ.1
          replace hbl:=hJ.2
          clear hJ
          go_wp2_with (first
           | (at_builtin; refine wpList_append_own _ rfl _ _ 30 rfl w.heap.size 39 i0 (.agg #[.int .u8 0,.string ⟨#[]⟩]) 2 24 uf30 HI.out.1 HI.out.2.1 HI.out.2.2.1 HI.out.2.2.2 rfl (by decide) _ _ _ rfl how ⟨bq,0,none⟩ 1 1 (fcell (s[i+2],p.data.toList)) rfl rfl ?c1 ?c2 ?c3 ?c4 ?c5 ?_)
           | fail)
          case c1=>exact afr_cell hbk
          case c2=>intro v hv; simp [fcell] at hv; rcases hv with rfl | rfl <;> rfl
          case c3=>unfold maxLen; omega
          case c4=>omega
          case c5=>exact hbl.size
          intro v' w3 hown' hgrow _
          rw [fcells_snoc] at hown'
          have hown2:w3.ownsRow w.heap.size 39 2 v' (fs++[(s[i+2],p.data.toList)]).length (fcells (fs++[(s[i+2],p.data.toList)])):=by rw [List.length_append]; exact hown'
          have hb3:Below w.heap.size w w3:=hbl.grown hgrow hbl.size (fun q hq=>(how.lt q hq).1)
          rw [HP.out] at HF2
          clear hgrow how hown'
          go_wp2
          go_roundw
          case rel=>exact ⟨i+6+n,b,_,⟨by omega,by omega,by rw [List.length_append]; simp; omega⟩,by go_num,rfl,hown2,HF2,hb3⟩
          case measure=>simp [intOf]; omega
     ·
      have e3:(((s[i+1].toNat:Nat):Int) != 90)=true:=by rw [bne_iff_ne]; omega
      have HF2:=Lib.hid (far_drop HF.out (rd_skip2 k1 H1.out h2))
      clear h2
      go_wp2
      go_roundw
      case rel=>exact ⟨i+1,b,fs,⟨by omega,by omega,by omega⟩,by go_num,rfl,how,HF2,hbl⟩
      case measure=>simp [intOf]; omega
   ·
    have e1:(((s[i].toNat:Nat):Int) != 165)=true:=by rw [bne_iff_ne]; omega
    have HF2:=Lib.hid (far_drop HF.out (rd_skip hlt h1))
    clear h1
    go_wp2
    go_roundw
    case rel=>exact ⟨i+1,b,fs,⟨by omega,by omega,by omega⟩,by go_num,rfl,how,HF2,hbl⟩
    case measure=>simp [intOf]; omega
  ·
   obtain ⟨wt,hwt⟩:∃ wt:Nat,wt=s.size - i:=⟨_,rfl⟩
   have HW:=Lib.hid hwt
   clear hwt
   have HE:Hid (RdEnd s fs b wt):=by rw [HW.out]; exact rd_fin (far_all HF.out (by omega))
   have hwi:(s.size:Int) - (i:Int)=(wt:Nat):=by have:=HW.out; omega
   go_wp2
   exact bodyPost_ret (v:=.tuple #[u5,.int .i64 (b:Nat),.int .i64 (wt:Nat)]) (by simp [results,Try.results14,go_sem]) rfl ⟨fs,b,wt,u5,rfl,HE.out,how,hbl⟩
end Go.Proofs.Ytadbijfjfoeojaa
