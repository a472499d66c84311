/- Parts of the proof. -/
import Derived.Test.YtadbijfjfoeojaaProg
import Derived.Test.YtadbijfjfoeojaaJf1
import Derived.KernelRfl
import Derived.Test.YtadbijfjfoeojaaShelf
import Derived.Lib.Strings
set_option linter.unusedSimpArgs false
set_option linter.unusedVariables false
/- The walks of groupOf, wellWritten, groupBehind, readDigits. -/
namespace Go.Proofs.Ytadbijfjfoeojaa
open Go.RowKit
theorem take_snoc (s:ByteArray) (k:Nat) (h:k < s.size):s.data.toList.take (k+1)=s.data.toList.take k++[s[k]]:=by
 rw [List.take_succ_eq_append_getElem (by simpa using h)]; rfl
/-- A value is handed back, the world is as it was. -/
def PEq (v:Value) (w:World) (e:Ending) (w':World):Prop:=e=.returned v∧w=w'
theorem PEq.val {v:Value} {w w':World} {e:Ending} (h:PEq v w e w'):PVal v w e w':=⟨h.1,by rw [← h.2]; exact Below.refl _ _⟩
theorem i64_xor_nat (a b:Nat) (ha:a < 9223372036854775808) (hb:b < 9223372036854775808):bits .xor .i64 (a:Int) (b:Int)=((a ^^^ b:Nat):Int):=by
 have hx:a ^^^ b < 2 ^ 63:=Nat.xor_lt_two_pow (by omega) (by omega)
 have e:∀ c:Nat,c < 9223372036854775808→(BitVec.ofInt 64 (c:Int)).toNat=c:=by
  intro c hc
  rw [BitVec.ofInt_natCast,BitVec.toNat_ofNat]
  exact Nat.mod_eq_of_lt (by omega)
 show IntKind.i64.wrap ((BitVec.ofInt 64 (a:Int) ^^^ BitVec.ofInt 64 (b:Int)).toNat:Int)=_
 rw [BitVec.toNat_xor,e a ha,e b hb]
 exact IntWalk.i64_in _ ⟨by omega,by omega⟩
set_option maxHeartbeats 800000 in
theorem rbit_lo (x v:Int) (w:World) (h0:0≤x) (h:x < 32768) (hv:x*2=v):Calls Try.prog 36 #[.int .i64 x] w (PEq (.int .i64 v) w):=by
 have e:(x*2).tmod 65536=v:=by rw [Int.tmod_eq_emod_of_nonneg (by omega)]; omega
 have HV:=Lib.hid hv
 clear hv
 go_enter Try.func36,Try.ntmps36
 go_wp2
 go_ret
 exact ⟨rfl,rfl⟩
set_option maxHeartbeats 800000 in
theorem rbit_hi (x u v:Int) (w:World) (h0:32768≤x) (h:x < 65536) (hu:x*2 - 65536=u) (hv:bits .xor .i64 u 4129=v):Calls Try.prog 36 #[.int .i64 x] w (PEq (.int .i64 v) w):=by
 have e:(x*2).tmod 65536=u:=by rw [Int.tmod_eq_emod_of_nonneg (by omega)]; omega
 have d:decide (32768≤x)=true:=decide_eq_true h0
 have HU:=Lib.hid hu
 clear hu
 go_enter Try.func36,Try.ntmps36
 go_wp2
 go_ret
 exact ⟨rfl,rfl⟩
theorem cb_hi {x:Nat} (h:x < 65536) (h2:32768≤x):X.cb x=(x*2 - 65536) ^^^ 4129:=by
 have e1:x.testBit 15=true:=(X.hi_bit h).trans (decide_eq_true h2)
 have e2:(x <<< 1) % 65536=x*2 - 65536:=by
  rw [Nat.shiftLeft_eq]
  omega
 unfold X.cb
 rw [e1,e2]
 simp only [if_true]
theorem rbit_any (x:Nat) (z v:Int) (w:World) (h:x < 65536) (hz:z=(x:Nat)) (hv:v=(X.cb x:Nat)):Calls Try.prog 36 #[.int .i64 z] w (PEq (.int .i64 v) w):=by
 subst hz
 by_cases hl:x < 32768
 ·
  rw [X.cb_small hl] at hv
  exact rbit_lo _ _ w (by omega) (by omega) (by omega)
 ·
  refine rbit_hi _ ((x*2 - 65536:Nat):Int) _ w (by omega) (by omega) (by omega) ?_
  rw [hv,cb_hi h (by omega)]
  exact i64_xor_nat _ 4129 (by omega) (by decide)
theorem cbn_snoc (k x:Nat):X.cbn (k+1) x=X.cb (X.cbn k x):=X.cbn_add k 1 x
theorem cbn_lt {x:Nat} (h:x < 65536):∀ k,X.cbn k x < 65536
 | 0=>h
 | k+1=>by rw [cbn_snoc]; exact X.cb_lt _
theorem csB_take (s0:Nat) {s:ByteArray} {k:Nat} (h:k < s.size):X.csB s0 (s.data.toList.take (k+1))=X.cbn 8 (X.csB s0 (s.data.toList.take k) ^^^ s[k].toNat*256):=by rw [take_snoc s k h,X.csB_snoc]
/-- A byte is put to a sum. -/
theorem byte_in {x b:Nat} (hx:x < 65536) (hb:b < 256):x ^^^ b*256 < 65536:=X.xor_lt16 hx (by omega)
set_option maxHeartbeats 1600000 in
theorem rmore_any (s0:Nat) (s:ByteArray) (z:Int) (w:World) (h0:s0 < 65536) (hz:z=(s0:Nat)) (hs:s.size≤4611686018427387904):Calls Try.prog 33 #[.int .i64 z,.string s] w (PEq (.int .i64 (X.csB s0 s.data.toList:Nat)) w):=by
 go_enter Try.func33,Try.ntmps33
 go_wp2
 go_loop [0,5] (fun sv iv=>∃ k:Nat,∃ y:Int,k≤s.size∧iv=.int .i64 k∧sv=.int .i64 y∧(0≤y∧y < 65536)∧Hid (y=(X.csB s0 (s.data.toList.take k):Nat))) (fun _ iv=>s.size - (intOf iv).toNat)
 case atStart=>exact ⟨0,z,Nat.zero_le _,rfl,rfl,by omega,hz⟩
 case round =>
  obtain ⟨k,y,hk,rfl,rfl,hy,HY⟩:=hrel
  have HZ:=Lib.hid hz
  clear hz
  by_cases hlt:k < s.size
  ·
   have hb:=s[k].toNat_lt
   obtain ⟨u,hu⟩:∃ u:Nat,u=X.csB s0 (s.data.toList.take k) ^^^ s[k].toNat*256:=⟨_,rfl⟩
   have hul:u < 65536:=by rw [hu]; exact byte_in (X.csB_lt _ h0) hb
   obtain ⟨u',hu'⟩:∃ u':Int,u'=(u:Nat):=⟨_,rfl⟩
   have hx:bits .xor .i64 y ((s[k].toNat:Int)*256)=u':=by
    rw [HY.out,hu',hu]
    exact i64_xor_nat _ (s[k].toNat*256) (by have:=X.csB_lt (s.data.toList.take k) h0; omega) (by omega)
   have HU:=Lib.hid hu
   have HU':=Lib.hid hu'
   clear hu hu'
   go_wp2
   clear hx
   go_loop [0,6] (fun sv iv=>∃ j:Nat,∃ v:Int,j≤8∧iv=.int .i64 j∧sv=.int .i64 v∧Hid (v=(X.cbn j u:Nat))) (fun _ iv=>8 - (intOf iv).toNat)
   case atStart=>exact ⟨0,u',by omega,rfl,rfl,HU'⟩
   case round =>
    obtain ⟨j,v,hj,rfl,rfl,HV⟩:=hrel
    by_cases hj8:j < 8
    ·
     have hc:=fun W=>rbit_any (X.cbn j u) v (X.cbn (j+1) u:Nat) W (cbn_lt hul j) HV.out (by rw [cbn_snoc])
     have HC:=Lib.hid hc
     clear hc
     go_wp2_with fail
     refine (HC.out _).mono ?_
     rintro e w' ⟨rfl,rfl⟩
     go_wp2
     go_round
     case rel=>exact ⟨j+1,_,by omega,by go_num,rfl,rfl⟩
     case measure=>simp [intOf]; omega
    ·
     obtain rfl:j=8:=by omega
     have hv:0≤v∧v < 65536:=by have:=HV.out; have:=cbn_lt hul 8; omega
     go_wp2
     go_round
     case rel=>exact ⟨k+1,v,by omega,by go_num,rfl,hv,by show _=_; rw [HV.out,HU.out,csB_take s0 hlt]⟩
     case measure=>simp [intOf]; omega
  ·
   obtain rfl:k=s.size:=by omega
   go_wp2
   go_ret
   exact ⟨ret_int (by rw [HY.out,List.take_of_length_le (by simp)]),rfl⟩
theorem rof_any (s:ByteArray) (w:World) (hs:s.size≤4611686018427387904):Calls Try.prog 24 #[.string s] w (PEq (.int .i64 (X.csB 65535 s.data.toList:Nat)) w):=by
 have hc:=fun W=>rmore_any 65535 s 65535 W (by decide) rfl hs
 have HC:=Lib.hid hc
 clear hc
 generalize X.csB 65535 s.data.toList=c at *
 go_enter Try.func24,Try.ntmps24
 go_wp2_with fail
 refine (HC.out _).mono ?_
 rintro e w' ⟨rfl,rfl⟩
 go_wp2
 go_ret
 exact ⟨rfl,rfl⟩
end Go.Proofs.Ytadbijfjfoeojaa

/- The walks of groupBehind, readDigits. -/
namespace Go.Proofs.Ytadbijfjfoeojaa
open Go.RowKit
/-- What is carried when a group is put behind a number. -/
def cb (N G k:Nat):Nat:=(N % BB ^ k*1000000000+G) / BB ^ k
theorem cb_zero (N G:Nat):cb N G 0=G:=by simp [cb,Nat.mod_one]
theorem cb_lt {N G:Nat} (hG:G < 1000000000) (k:Nat):cb N G k < 1000000000:=by
 unfold cb
 refine Nat.div_lt_of_lt_mul ?_
 have h:=Nat.mul_le_mul_right 1000000000 (show N % BB ^ k+1≤BB ^ k from Nat.mod_lt _ (BBp k))
 omega
end Go.Proofs.Ytadbijfjfoeojaa
