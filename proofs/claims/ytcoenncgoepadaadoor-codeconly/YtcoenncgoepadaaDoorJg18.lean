/- Parts of the proof. -/
import Derived.Test.YtcoenncgoepadaaDoorJg0
import Derived.Test.YtcoenncgoepadaaDoorJg17
import Derived.Test.YtcoenncgoepadaaDoorJg3
set_option linter.unusedSimpArgs false
set_option linter.unusedVariables false
/- Package codec: the landed values. No statement of the seat is proved here. -/
namespace Go.Proofs.YtcoenncgoepadaaDoor
open Go Go.RowKit
theorem dv_get:∀ (n:Nat) (l:List UInt8) (j:Nat),j < n→(B.dv n l)[j]?=some (B.un (B.nm ((l.drop (4*j)).take 4)))
 | 0,_,j,h=>absurd h (Nat.not_lt_zero j)
 | n+1,l,0,_=>by
  show some (B.un (B.nm (l.take 4)))=_
  rw [Nat.mul_zero,List.drop_zero]
 | n+1,l,j+1,h=>by
  show (B.dv n (l.drop 4))[j]?=_
  rw [dv_get n _ j (by omega),List.drop_drop,show 4+4*j=4*(j+1) by omega]
theorem i32_un {u:Nat} (h:u < 4294967296):IntKind.i32.wrap (u:Int)=B.un u:=by
 have e:(u:Int) % 2 ^ 32=u:=by rw [show (2:Int) ^ 32=4294967296 by rfl]; omega
 unfold B.un
 simp only [IntKind.wrap,IntKind.bits,IntKind.signed,e]
 by_cases h2:2147483648≤u
 ·
  rw [if_pos (by simp; omega),if_pos h2]
  rfl
 ·
  rw [if_neg (by simp; omega),if_neg h2]
theorem info64:(Tryd.prog.info? 2).map (fun i=>(i.zero,i.size,i.bytes))=some (some (.int .i64 0),1,8):=by kernel_rfl
theorem ub64:Tryd.prog.underlying 22=some (.slice 2):=by kernel_rfl
/-- Values are handed back in a new slice. -/
def PVals (n:Nat) (vs:List Int) (w:World) (e:Ending) (w':World):Prop:=∃ (g:Nat) (C:Array Value),e=.returned (.slice (some ⟨g,0,none⟩) n n)∧Es w w' [(g,C,2)]∧∀ j (h:j < vs.length),C[j]?=some (.int .i64 vs[j])
set_option maxRecDepth 100000 in
set_option maxHeartbeats 3200000 in
theorem values_any (s:ByteArray) (n:Nat) (w:World) (hs:s.size=4*n) (hn:n≤6):Calls Tryd.prog 21 #[.string s,.int .i64 (n:Nat)] w (PVals n (B.dv n s.data.toList) w):=by
 have HS:=Lib.hid hs
 clear hs
 go_enter Tryd.func21,Tryd.ntmps21
 go_wp2_with (first
  | (refine wpList_mk _ rfl (.tmp 8) (.tmp 8) 22 rfl 2 .i64 8 ub64 info64 (n:Int) (n:Int) n rfl rfl rfl rfl (by omega) (by omega) (fun g W1 hg hown hB1=>?_))
  | fail)
 have hC:∃ C:Array Value,C.size=n∧Es w W1 [(g,C,2)]:=⟨_,by simp,((es_nil w).later hB1).join hg (fun p hp=>by cases hp) hown⟩
 obtain ⟨C0,hC0,hJ0⟩:=hC
 have HC0:=Lib.hid hC0
 clear hC0 hown hB1
 go_wp2
 go_loopg [12] n (fun q iv wx=>∃ (i:Nat) (C:Array Value),i+q=n∧iv=.int .i64 i∧Hid (C.size=n)∧Hid (∀ j,j < i→C[j]?=some (.int .i64 (B.un (B.nm ((s.data.toList.drop (4*j)).take 4)))))∧Es w wx [(g,C,2)])
 case atStart=>exact ⟨0,C0,by omega,rfl,HC0,fun j h=>absurd h (Nat.not_lt_zero _),hJ0⟩
 case round =>
  obtain ⟨i,C,hi,rfl,HC,HD,hJ⟩:=hrel
  cases gk with
  | zero =>
   obtain rfl:i=n:=by omega
   go_wp2
   go_ret
   refine ⟨g,C,rfl,hJ,fun j hj=>?_⟩
   have hj':j < i:=by rw [B.dv_len] at hj; exact hj
   have h1:=dv_get i s.data.toList j hj'
   rw [List.getElem?_eq_getElem hj] at h1
   rw [Option.some.inj h1]
   exact HD.out j hj'
  | succ r =>
   have hle:(i+1)*4≤s.size:=by have:=HS.out; omega
   have hB:=hJ.below
   go_wp2_with fail
   refine (unsigned_any (s.extract (i*4) ((i+1)*4)) wr (by rw [ByteArray.size_extract]; omega)).mono ?_
   rintro e W2 ⟨rfl,hB2⟩
   have hJ2:=hJ.later hB2
   obtain ⟨u,hu⟩:∃ u,B.nm (s.extract (i*4) ((i+1)*4)).data.toList=u:=⟨_,rfl⟩
   have HU:Hid (u=B.nm ((s.data.toList.drop (4*i)).take 4)):=by
    show _=_
    rw [← hu,tl_take _ _ hle,show (i+1)*4 - i*4=4 by omega,Nat.mul_comm i 4]
   have hul:u < 4294967296:=by
    have h1:=nm_lt (s.extract (i*4) ((i+1)*4)).data.toList
    rw [hu] at h1
    have h2:(s.extract (i*4) ((i+1)*4)).data.toList.length=4:=by
     show (s.extract (i*4) ((i+1)*4)).size=4
     rw [ByteArray.size_extract]
     omega
    rw [h2] at h1
    exact h1
   rw [hu]
   have hx1:=B.un_in hul
   obtain ⟨x,hx⟩:∃ x,B.un u=x:=⟨_,rfl⟩
   have hw:IntKind.i32.wrap (u:Int)=x:=(i32_un hul).trans hx
   rw [hx] at hx1
   have HX:=Lib.hid hx
   have hci:i < C.size:=by have:=HC.out; omega
   clear hx hu hJ hB2 hB hul
   go_wp2_with (refine stop_store 2 (.tmp 28) (.tmp 27) 0 g _ C 2 1 [.int .i64 x] _ _ rfl rfl rfl rfl sz2 hJ2 rfl rfl (by omega) rfl rfl rfl (fun W3 hJ3=>?_))
   simp only [Stop,Act.put,zzC,zzD,zzE]
   obtain ⟨C2,hC2⟩:∃ C2,C.setIfInBounds i (.int .i64 x)=C2:=⟨_,rfl⟩
   have hJ4:Es w W3 [(g,C2,2)]:=by rw [← hC2]; exact hJ3
   have HC2:Hid (C2.size=n):=by show _=_; rw [← hC2,Array.size_setIfInBounds]; exact HC.out
   have HD2:Hid (∀ j,j < i+1→C2[j]?=some (.int .i64 (B.un (B.nm ((s.data.toList.drop (4*j)).take 4))))):=by
    intro j hj
    rw [← hC2]
    by_cases e:j=i
    ·
     subst e
     rw [Array.getElem?_setIfInBounds_self_of_lt hci,← HU.out,HX.out]
    ·
     rw [Array.getElem?_setIfInBounds_ne (fun h=>e h.symm)]
     exact HD.out j (by omega)
   clear hJ3 hC2 hw
   go_wp2
   go_roundg r
   case measure=>omega
   case rel=>exact ⟨i+1,C2,by omega,by go_num,HC2,HD2,hJ4⟩
/-- What bytes tell. -/
def dA (s:ByteArray):Nat:=B.nm (s.data.toList.take 4)
def dQ (s:ByteArray):Nat:=B.nm ((s.data.toList.drop 4).take 2)
def dV (k:Int) (s:ByteArray):List Int:=B.dv (cnt k) (s.data.toList.drop 6)
/-- What is wrong with bytes. -/
def dE (k:Int) (s:ByteArray):Int :=
 if cnt k=0 then 120 else if s.size ≠ 6+4*cnt k then 121 else if ∀ v,v ∈ dV k s→okV v then 0 else 122
theorem dV_len (k:Int) (s:ByteArray):(dV k s).length=cnt k:=B.dv_len _ _
section
variable {k:Int} {s:ByteArray}
theorem dE_kind (h:cnt k=0):dE k s=120:=by unfold dE; rw [if_pos h]
theorem dE_size (h:cnt k ≠ 0) (h1:s.size ≠ 6+4*cnt k):dE k s=121:=by unfold dE; rw [if_neg h,if_pos h1]
theorem dE_val (h:cnt k ≠ 0) (h1:s.size=6+4*cnt k) {v:Int} (hv:v ∈ dV k s) (h2:¬ okV v):dE k s=122:=by
 unfold dE
 rw [if_neg h,if_neg (by omega),if_neg (fun hc=>h2 (hc v hv))]
theorem dE_ok (h:cnt k ≠ 0) (h1:s.size=6+4*cnt k) (h2:∀ v,v ∈ dV k s→okV v):dE k s=0:=by
 unfold dE
 rw [if_neg h,if_neg (by omega),if_pos h2]
theorem of_dE (h:dE k s=0):cnt k ≠ 0∧s.size=6+4*cnt k∧∀ v,v ∈ dV k s→okV v:=by
 unfold dE at h
 split at h
 ·
  omega
 split at h
 ·
  omega
 split at h
 ·
  next h1 h2 h3=>exact ⟨h1,by omega,h3⟩
 ·
  omega
theorem dA_lt:dA s < 4294967296:=by
 refine Nat.lt_of_lt_of_le (nm_lt _) ?_
 have h1:(s.data.toList.take 4).length≤4:=by rw [List.length_take]; omega
 exact Nat.le_trans (Nat.pow_le_pow_right (by decide) h1) (by decide)
theorem dQ_lt:dQ s < 65536:=by
 refine Nat.lt_of_lt_of_le (nm_lt _) ?_
 have h1:((s.data.toList.drop 4).take 2).length≤2:=by rw [List.length_take]; omega
 exact Nat.le_trans (Nat.pow_le_pow_right (by decide) h1) (by decide)
theorem err_dE (h:cnt k ≠ 0) (h1:s.size=6+4*cnt k):err k (dA s) (dQ s) (dV k s)=dE k s:=by
 have ha:=dA_lt (s:=s)
 have hq:=dQ_lt (s:=s)
 have hl:=dV_len k s
 have e1:¬ (dV k s).length ≠ cnt k:=by omega
 have e2:¬ (((dA s:Nat):Int) < 0∨4294967295 < ((dA s:Nat):Int)∨((dQ s:Nat):Int) < 0∨65535 < ((dQ s:Nat):Int)):=by omega
 have e3:¬ s.size ≠ 6+4*cnt k:=by omega
 unfold err dE
 rw [if_neg h,if_neg h,if_neg e1,if_neg e2,if_neg e3]
end
/-- A measurement is handed back, and that nothing is wrong. -/
def PDec (k a q:Int) (vs:List Int) (w:World) (e:Ending) (w':World):Prop:=∃ (ad:Option Addr) (n c:Nat),e=.returned (.tuple #[.agg #[.int .i64 k,.int .i64 a,.int .i64 q,(.slice ad n c)],.int .i64 0])∧vs.length=n∧Il w' ad vs∧Below w.heap.size w w'
theorem il_of {w W:World} {l:List (Nat × Array Value × TypeId)} {g:Nat} {C:Array Value} {vs:List Int} {T:TypeId} (h:Es w W l) (j:Nat) (hj:l[j]?=some (g,C,T)) (hC:∀ i (h:i < vs.length),C[i]?=some (.int .i64 vs[i])):Il W (some ⟨g,0,none⟩) vs:=fun i hi=>⟨g,0,rfl,by
 rw [Nat.zero_add]
 exact h.cell j hj i (hC i hi)⟩
/-- Values in new memory. -/
def Pvl (m0:Nat) (n:Nat) (vs:List Int) (v:Value) (W:World):Prop:=∃ (g:Nat) (C:Array Value),v=.slice (some ⟨g,0,none⟩) n n∧m0≤g∧Cl W (g,C,2)∧∀ j (h:j < vs.length),C[j]?=some (.int .i64 vs[j])
theorem Pvl.later {m0 n:Nat} {vs:List Int} {v:Value} {W W':World} (h:Pvl m0 n vs v W) (hb:Below W.heap.size W W'):Pvl m0 n vs v W':=by
 obtain ⟨g,C,e,h1,h2,h3⟩:=h
 exact ⟨g,C,e,h1,h2.below hb,h3⟩
/-- A measurement whose values stand in new memory. -/
def Pml (m0:Nat) (k a q:Int) (n:Nat) (vs:List Int) (v:Value) (W:World):Prop:=∃ (g:Nat) (C:Array Value),v=.agg #[.int .i64 k,.int .i64 a,.int .i64 q,(.slice (some ⟨g,0,none⟩) n n)]∧m0≤g∧Cl W (g,C,2)∧∀ j (h:j < vs.length),C[j]?=some (.int .i64 vs[j])
theorem Pml.later {m0 n:Nat} {k a q:Int} {vs:List Int} {v:Value} {W W':World} (h:Pml m0 k a q n vs v W) (hb:Below W.heap.size W W'):Pml m0 k a q n vs v W':=by
 obtain ⟨g,C,e,h1,h2,h3⟩:=h
 exact ⟨g,C,e,h1,h2.below hb,h3⟩
theorem ext_take {s:ByteArray} (h:4≤s.size):B.nm (s.extract 0 4).data.toList=dA s:=by
 rw [tl_take 0 4 h]
 rfl
theorem ext_mid {s:ByteArray} (h:6≤s.size):B.nm (s.extract 4 6).data.toList=dQ s:=by
 rw [tl_take 4 6 h]
 rfl
theorem ext_end {s:ByteArray}:(s.extract 6 s.size).data.toList=s.data.toList.drop 6:=by
 rw [tl_take 6 s.size (Nat.le_refl _)]
 exact List.take_of_length_le (by rw [tl_len]; exact Nat.le_refl _)
set_option maxRecDepth 100000 in
set_option maxHeartbeats 3200000 in
theorem decode_kind {w:World} {k:Int} {s:ByteArray} (hk:0≤k∧k≤255) (hs:s.size≤1000000000000000) (he:cnt k=0) (hT:Tab w):Calls Tryd.prog 13 #[.int .u8 k,.string s] w (PVal (.tuple #[.agg #[.int .i64 0,.int .i64 0,.int .i64 0,.slice none 0 0],.int .i64 120]) w):=by
 have HT:=Lib.hid hT
 have HE:=Lib.hid he
 clear hT he
 have HM:=HE
 have hJ0:=es_nil w
 go_enter Tryd.func13,Tryd.ntmps13
 go_wp2_with (refine stop_alloc 24 #[.int .i64 0,.int .i64 0,.int .i64 0,.slice none 0 0] (.agg #[.int .i64 0,.int .i64 0,.int .i64 0,.slice none 0 0]) rfl rfl zv24 rfl hJ0 (fun bk1 W1 hJ1=>?_))
 clear hJ0
 simp only [Stop,Act.put,zzC,zzD,zzE]
 go_wp2_with fail
 refine (count_any k W1 (HT.out.below hJ1.below)).mono ?_
 rintro e W2 ⟨rfl,hB⟩
 have hJ2:=hJ1.later hB
 clear hJ1 hB
 rw [HM.out]
 go_wp2_with (refine zso rfl (fun K hK=>wp_bld (v:=.agg #[.int .i64 0,.int .i64 0,.int .i64 0,.slice none 0 0]) 24 #[] rfl rfl (fun _=>by kernel_rfl) (hK _ _ ?_)))
 simp only [Stop,Act.put,zzC,zzD,zzE]
 go_wp2_with (refine stop_store 24 (.tmp 4) (.tmp 13) 0 bk1 0 #[.int .i64 0,.int .i64 0,.int .i64 0,.slice none 0 0] 24 4 #[.int .i64 0,.int .i64 0,.int .i64 0,.slice none 0 0].toList #[.int .i64 0,.int .i64 0,.int .i64 0,.slice none 0 0] [(bk1,#[.int .i64 0,.int .i64 0,.int .i64 0,.slice none 0 0],24)] rfl rfl rfl rfl sz24 hJ2 rfl (by kernel_rfl) (zzF (by kernel_rfl)) (by kernel_rfl) (by kernel_rfl) (by kernel_rfl) (fun W3 hJ3=>?_))
 clear hJ2
 simp only [Stop,Act.put,zzC,zzD,zzE]
 go_wp2
 exact bodyPost_ret (v:=.tuple #[.agg #[.int .i64 0,.int .i64 0,.int .i64 0,.slice none 0 0],.int .i64 120]) (res_ct 0 Tryd.results13 hJ3 rfl ag24 sz24 (zzF (by kernel_rfl)) rfl (by kernel_rfl) rfl) rfl ⟨rfl,hJ3.below⟩
set_option maxRecDepth 100000 in
set_option maxHeartbeats 3200000 in
theorem decode_size {w:World} {k:Int} {s:ByteArray} (hk:0≤k∧k≤255) (hs:s.size≤1000000000000000) {m:Nat} (hm:cnt k=m) (hm0:m ≠ 0) (he:s.size ≠ 6+4*m) (hT:Tab w):Calls Tryd.prog 13 #[.int .u8 k,.string s] w (PVal (.tuple #[.agg #[.int .i64 0,.int .i64 0,.int .i64 0,.slice none 0 0],.int .i64 121]) w):=by
 have HT:=Lib.hid hT
 have HE:=Lib.hid he
 clear hT he
 have HM:=Lib.hid hm
 have hm6:m≤6:=by rw [← hm]; exact cnt_le k
 have e0:((m:Int) == 0)=false:=by rw [beq_eq_false_iff_ne]; omega
 have e1:((s.size:Int) != 6+(m:Int)*4)=true:=by rw [bne_iff_ne]; have:=HE.out; omega
 clear hm hm0
 have hJ0:=es_nil w
 go_enter Tryd.func13,Tryd.ntmps13
 go_wp2_with (refine stop_alloc 24 #[.int .i64 0,.int .i64 0,.int .i64 0,.slice none 0 0] (.agg #[.int .i64 0,.int .i64 0,.int .i64 0,.slice none 0 0]) rfl rfl zv24 rfl hJ0 (fun bk1 W1 hJ1=>?_))
 clear hJ0
 simp only [Stop,Act.put,zzC,zzD,zzE]
 go_wp2_with fail
 refine (count_any k W1 (HT.out.below hJ1.below)).mono ?_
 rintro e W2 ⟨rfl,hB⟩
 have hJ2:=hJ1.later hB
 clear hJ1 hB
 rw [HM.out]
 go_wp2_with (refine zso rfl (fun K hK=>wp_bld (v:=.agg #[.int .i64 0,.int .i64 0,.int .i64 0,.slice none 0 0]) 24 #[] rfl rfl (fun _=>by kernel_rfl) (hK _ _ ?_)))
 simp only [Stop,Act.put,zzC,zzD,zzE]
 go_wp2_with (refine stop_store 24 (.tmp 4) (.tmp 20) 0 bk1 0 #[.int .i64 0,.int .i64 0,.int .i64 0,.slice none 0 0] 24 4 #[.int .i64 0,.int .i64 0,.int .i64 0,.slice none 0 0].toList #[.int .i64 0,.int .i64 0,.int .i64 0,.slice none 0 0] [(bk1,#[.int .i64 0,.int .i64 0,.int .i64 0,.slice none 0 0],24)] rfl rfl rfl rfl sz24 hJ2 rfl (by kernel_rfl) (zzF (by kernel_rfl)) (by kernel_rfl) (by kernel_rfl) (by kernel_rfl) (fun W3 hJ3=>?_))
 clear hJ2
 simp only [Stop,Act.put,zzC,zzD,zzE]
 go_wp2
 exact bodyPost_ret (v:=.tuple #[.agg #[.int .i64 0,.int .i64 0,.int .i64 0,.slice none 0 0],.int .i64 121]) (res_ct 0 Tryd.results13 hJ3 rfl ag24 sz24 (zzF (by kernel_rfl)) rfl (by kernel_rfl) rfl) rfl ⟨rfl,hJ3.below⟩
set_option maxRecDepth 100000 in
set_option maxHeartbeats 3200000 in
theorem decode_val {w:World} {k:Int} {s:ByteArray} (hk:0≤k∧k≤255) (hs:s.size≤1000000000000000) {m:Nat} (hm:cnt k=m) (hm0:m ≠ 0) (he:s.size=6+4*m) {E:Int} (hde:dE k s=E) (hE:E ≠ 0) (hT:Tab w):Calls Tryd.prog 13 #[.int .u8 k,.string s] w (PVal (.tuple #[.agg #[.int .i64 0,.int .i64 0,.int .i64 0,.slice none 0 0],.int .i64 E]) w):=by
 have HT:=Lib.hid hT
 have HE:=Lib.hid he
 clear hT he
 have HM:=Lib.hid hm
 have hm6:m≤6:=by rw [← hm]; exact cnt_le k
 have e0:((m:Int) == 0)=false:=by rw [beq_eq_false_iff_ne]; omega
 have e1:((s.size:Int) != 6+(m:Int)*4)=false:=by rw [bne_eq_false_iff_eq]; have:=HE.out; omega
 have hz6:6≤s.size:=by have:=HE.out; omega
 have HN:Hid ((dV k s).length=m):=by show _=_; rw [dV_len,hm]
 have hC0:cnt k ≠ 0:=by rw [hm]; exact hm0
 have HD:Hid (err k (dA s) (dQ s) (dV k s)=dE k s):=err_dE hC0 (by rw [hm]; exact HE.out)
 obtain ⟨vs,hvs⟩:∃ vs,dV k s=vs:=⟨_,rfl⟩
 obtain ⟨A,hA⟩:∃ A:Int,((dA s:Nat):Int)=A:=⟨_,rfl⟩
 obtain ⟨Q,hQ⟩:∃ Q:Int,((dQ s:Nat):Int)=Q:=⟨_,rfl⟩
 rw [hvs,hA,hQ] at HD
 rw [hvs] at HN
 rw [hde] at HD
 clear hm hm0 hC0 hde
 have hJ0:=es_nil w
 go_enter Tryd.func13,Tryd.ntmps13
 go_wp2_with (refine stop_alloc 24 #[.int .i64 0,.int .i64 0,.int .i64 0,.slice none 0 0] (.agg #[.int .i64 0,.int .i64 0,.int .i64 0,.slice none 0 0]) rfl rfl zv24 rfl hJ0 (fun bk1 W1 hJ1=>?_))
 clear hJ0
 simp only [Stop,Act.put,zzC,zzD,zzE]
 go_wp2_with fail
 refine (count_any k W1 (HT.out.below hJ1.below)).mono ?_
 rintro e W2 ⟨rfl,hB⟩
 have hJ2:=hJ1.later hB
 clear hJ1 hB
 rw [HM.out]
 have hlt:=hJ2.lt _ (List.mem_cons_self ..)
 simp only at hlt
 have HFA:Hid (∀ W,Calls Tryd.prog 20 #[.string (s.extract 0 4)] W (PVal (.int .i64 A) W)):=fun W=>by
  rw [← hA,← ext_take (by omega)]
  exact unsigned_any _ W (by rw [ByteArray.size_extract]; omega)
 have HFQ:Hid (∀ W,Calls Tryd.prog 20 #[.string (s.extract 4 6)] W (PVal (.int .i64 Q) W)):=fun W=>by
  rw [← hQ,← ext_mid (by omega)]
  exact unsigned_any _ W (by rw [ByteArray.size_extract]; omega)
 have HFV:Hid (∀ W,Calls Tryd.prog 21 #[.string (s.extract 6 s.size),.int .i64 (m:Nat)] W (PVals m vs W)):=fun W=>by
  have h:=values_any (s.extract 6 s.size) m W (by rw [ByteArray.size_extract]; have:=HE.out; omega) hm6
  rw [ext_end] at h
  have e:B.dv m (s.data.toList.drop 6)=vs:=by rw [← hvs,← HM.out]; rfl
  rw [e] at h
  exact h
 clear hvs hA hQ
 obtain ⟨sA,hsA⟩:∃ x,s.extract 0 4=x:=⟨_,rfl⟩
 obtain ⟨sQ,hsQ⟩:∃ x,s.extract 4 6=x:=⟨_,rfl⟩
 obtain ⟨sV,hsV⟩:∃ x,s.extract 6 s.size=x:=⟨_,rfl⟩
 rw [hsA] at HFA
 rw [hsQ] at HFQ
 rw [hsV] at HFV
 go_wp2
 refine wp_region_rel 14 [some 21,some 22,some 23,some 24,some 25,some 26,some 27,some 28,some 29,some 30,some 31,some 32,some 33,some 7] (lstP [Veq (.int .u8 k),Veq (.int .i64 k),Veq (.string s),Veq (.string sA),Veq (.int .i64 A),Veq (.string s),Veq (.string sQ),Veq (.int .i64 Q),Veq (.string s),Veq (.string sV),Veq (.int .i64 (m:Nat)),Pvl W2.heap.size m vs,Pml W2.heap.size k A Q m vs,Abox W2.heap.size #[.int .i64 0,.int .i64 0,.int .i64 0,.slice none 0 0] 24]) (fun W=>Es w W [(bk1,#[.int .i64 0,.int .i64 0,.int .i64 0,.slice none 0 0],24)]∧W2.heap.size≤W.heap.size) [] (by kernel_rfl) (by kernel_rfl) ?_ ?_ (⟨hJ2.drew,Nat.le_refl _⟩) ?_ ?_
 ·
  intro j v W W' hj h hb
  obtain rfl | rfl | rfl | rfl | rfl | rfl | rfl | rfl | rfl | rfl | rfl | rfl | rfl | rfl:j=0∨j=1∨j=2∨j=3∨j=4∨j=5∨j=6∨j=7∨j=8∨j=9∨j=10∨j=11∨j=12∨j=13:=by omega
  ·
   exact Veq.later (show Veq (.int .u8 k) v W from h) hb
  ·
   exact Veq.later (show Veq (.int .i64 k) v W from h) hb
  ·
   exact Veq.later (show Veq (.string s) v W from h) hb
  ·
   exact Veq.later (show Veq (.string sA) v W from h) hb
  ·
   exact Veq.later (show Veq (.int .i64 A) v W from h) hb
  ·
   exact Veq.later (show Veq (.string s) v W from h) hb
  ·
   exact Veq.later (show Veq (.string sQ) v W from h) hb
  ·
   exact Veq.later (show Veq (.int .i64 Q) v W from h) hb
  ·
   exact Veq.later (show Veq (.string s) v W from h) hb
  ·
   exact Veq.later (show Veq (.string sV) v W from h) hb
  ·
   exact Veq.later (show Veq (.int .i64 (m:Nat)) v W from h) hb
  ·
   exact Pvl.later (show Pvl W2.heap.size m vs v W from h) hb
  ·
   exact Pml.later (show Pml W2.heap.size k A Q m vs v W from h) hb
  ·
   exact Abox.later (show Abox W2.heap.size #[.int .i64 0,.int .i64 0,.int .i64 0,.slice none 0 0] 24 v W from h) hb
 ·
  intro j v W hj hm h
  cases hm
 ·
  intro i hl hi u W hJ hd
  obtain rfl | rfl | rfl | rfl | rfl | rfl | rfl | rfl | rfl | rfl | rfl | rfl | rfl | rfl:i=0∨i=1∨i=2∨i=3∨i=4∨i=5∨i=6∨i=7∨i=8∨i=9∨i=10∨i=11∨i=12∨i=13:=by omega
  ·
   clear hd
   simp only [zzA,zzB]
   clear hl
   refine .inr ⟨rfl,fun K' hK=>?_⟩
   have HK:=Lib.hid hK
   clear hK
   simp only [layS,Act.put,zzC,zzD,zzE,Nat.zero_add,Nat.reduceAdd]
   go_simp
   exact HK.out _ _ (.int .u8 k) (by simp [layS,updV,Act.put]) hJ (rfl) (Below.refl _ _) (fun h=>absurd h (by decide))
  ·
   have e0:u 0=.int .u8 k:=hd 0 (by decide) (by kernel_rfl)
   clear hd
   simp only [zzA,zzB]
   clear hl
   refine .inr ⟨rfl,fun K' hK=>?_⟩
   have HK:=Lib.hid hK
   clear hK
   simp only [layS,Act.put,zzC,zzD,zzE,Nat.zero_add,Nat.reduceAdd,e0]
   have E0:=Lib.hid e0
   clear e0
   have hw:IntKind.i64.wrap k=k:=IntWalk.i64_in _ ⟨by omega,by omega⟩
   go_simp
   exact HK.out _ _ (.int .i64 k) (by simp [layS,updV,Act.put,E0.out]) hJ (rfl) (Below.refl _ _) (fun h=>absurd h (by decide))
  ·
   clear hd
   simp only [zzA,zzB]
   clear hl
   refine .inr ⟨rfl,fun K' hK=>?_⟩
   have HK:=Lib.hid hK
   clear hK
   simp only [layS,Act.put,zzC,zzD,zzE,Nat.zero_add,Nat.reduceAdd]
   go_simp
   exact HK.out _ _ (.string s) (by simp [layS,updV,Act.put]) hJ (rfl) (Below.refl _ _) (fun h=>absurd h (by decide))
  ·
   have e2:u 2=.string s:=hd 2 (by decide) (by kernel_rfl)
   clear hd
   simp only [zzA,zzB]
   clear hl
   refine .inr ⟨rfl,fun K' hK=>?_⟩
   have HK:=Lib.hid hK
   clear hK
   simp only [layS,Act.put,zzC,zzD,zzE,Nat.zero_add,Nat.reduceAdd,e2]
   have E2:=Lib.hid e2
   clear e2
   go_simp
   rw [if_pos (by omega)]
   go_simp
   exact HK.out _ _ (.string sA) (by simp [layS,updV,Act.put,E2.out]) hJ (rfl) (Below.refl _ _) (fun h=>absurd h (by decide))
  ·
   have e3:u 3=.string sA:=hd 3 (by decide) (by kernel_rfl)
   clear hd
   simp only [zzA,zzB]
   clear hl
   refine .inr ⟨rfl,fun K' hK=>?_⟩
   have HK:=Lib.hid hK
   clear hK
   simp only [layS,Act.put,zzC,zzD,zzE,Nat.zero_add,Nat.reduceAdd,e3]
   have E3:=Lib.hid e3
   clear e3
   go_simp
   refine (HFA.out _).mono ?_
   rintro e W' ⟨rfl,hB⟩
   exact HK.out _ _ (.int .i64 A) (by simp [layS,updV,Act.put,E3.out]) (⟨hJ.1.later hB,Nat.le_trans hJ.2 hB.size⟩) (rfl) hB (fun h=>absurd h (by decide))
  ·
   clear hd
   simp only [zzA,zzB]
   clear hl
   refine .inr ⟨rfl,fun K' hK=>?_⟩
   have HK:=Lib.hid hK
   clear hK
   simp only [layS,Act.put,zzC,zzD,zzE,Nat.zero_add,Nat.reduceAdd]
   go_simp
   exact HK.out _ _ (.string s) (by simp [layS,updV,Act.put]) hJ (rfl) (Below.refl _ _) (fun h=>absurd h (by decide))
  ·
   have e5:u 5=.string s:=hd 5 (by decide) (by kernel_rfl)
   clear hd
   simp only [zzA,zzB]
   clear hl
   refine .inr ⟨rfl,fun K' hK=>?_⟩
   have HK:=Lib.hid hK
   clear hK
   simp only [layS,Act.put,zzC,zzD,zzE,Nat.zero_add,Nat.reduceAdd,e5]
   have E5:=Lib.hid e5
   clear e5
   go_simp
   rw [if_pos (by omega)]
   go_simp
   exact HK.out _ _ (.string sQ) (by simp [layS,updV,Act.put,E5.out]) hJ (rfl) (Below.refl _ _) (fun h=>absurd h (by decide))
  ·
   have e6:u 6=.string sQ:=hd 6 (by decide) (by kernel_rfl)
   clear hd
   simp only [zzA,zzB]
   clear hl
   refine .inr ⟨rfl,fun K' hK=>?_⟩
   have HK:=Lib.hid hK
   clear hK
   simp only [layS,Act.put,zzC,zzD,zzE,Nat.zero_add,Nat.reduceAdd,e6]
   have E6:=Lib.hid e6
   clear e6
   go_simp
   refine (HFQ.out _).mono ?_
   rintro e W' ⟨rfl,hB⟩
   exact HK.out _ _ (.int .i64 Q) (by simp [layS,updV,Act.put,E6.out]) (⟨hJ.1.later hB,Nat.le_trans hJ.2 hB.size⟩) (rfl) hB (fun h=>absurd h (by decide))
  ·
   clear hd
   simp only [zzA,zzB]
   clear hl
   refine .inr ⟨rfl,fun K' hK=>?_⟩
   have HK:=Lib.hid hK
   clear hK
   simp only [layS,Act.put,zzC,zzD,zzE,Nat.zero_add,Nat.reduceAdd]
   go_simp
   exact HK.out _ _ (.string s) (by simp [layS,updV,Act.put]) hJ (rfl) (Below.refl _ _) (fun h=>absurd h (by decide))
  ·
   have e8:u 8=.string s:=hd 8 (by decide) (by kernel_rfl)
   clear hd
   simp only [zzA,zzB]
   clear hl
   refine .inr ⟨rfl,fun K' hK=>?_⟩
   have HK:=Lib.hid hK
   clear hK
   simp only [layS,Act.put,zzC,zzD,zzE,Nat.zero_add,Nat.reduceAdd,e8]
   have E8:=Lib.hid e8
   clear e8
   go_simp
   rw [if_pos (by omega)]
   go_simp
   exact HK.out _ _ (.string sV) (by simp [layS,updV,Act.put,E8.out]) hJ (rfl) (Below.refl _ _) (fun h=>absurd h (by decide))
  ·
   clear hd
   simp only [zzA,zzB]
   clear hl
   refine .inr ⟨rfl,fun K' hK=>?_⟩
   have HK:=Lib.hid hK
   clear hK
   simp only [layS,Act.put,zzC,zzD,zzE,Nat.zero_add,Nat.reduceAdd]
   go_simp
   exact HK.out _ _ (.int .i64 (m:Nat)) (by simp [layS,updV,Act.put]) hJ (rfl) (Below.refl _ _) (fun h=>absurd h (by decide))
  ·
   have e9:u 9=.string sV:=hd 9 (by decide) (by kernel_rfl)
   have e10:u 10=.int .i64 (m:Nat):=hd 10 (by decide) (by kernel_rfl)
   clear hd
   simp only [zzA,zzB]
   clear hl
   refine .inr ⟨rfl,fun K' hK=>?_⟩
   have HK:=Lib.hid hK
   clear hK
   simp only [layS,Act.put,zzC,zzD,zzE,Nat.zero_add,Nat.reduceAdd,e9,e10]
   have E9:=Lib.hid e9
   have E10:=Lib.hid e10
   clear e9 e10
   go_simp
   refine (HFV.out _).mono ?_
   rintro e W' ⟨g2,C2,rfl,hE',hv2⟩
   have hB:=hE'.below
   exact HK.out _ _ (_) (by simp [layS,updV,Act.put,E9.out,E10.out]) (⟨hJ.1.later hB,Nat.le_trans hJ.2 hB.size⟩) (⟨g2,C2,rfl,Nat.le_trans hJ.2 (hE'.ge _ (List.mem_cons_self ..)),hE'.at' _ (List.mem_cons_self ..),hv2⟩) hB (fun h=>absurd h (by decide))
  ·
   have e1:u 1=.int .i64 k:=hd 1 (by decide) (by kernel_rfl)
   have e4:u 4=.int .i64 A:=hd 4 (by decide) (by kernel_rfl)
   have e7:u 7=.int .i64 Q:=hd 7 (by decide) (by kernel_rfl)
   obtain ⟨g0,C0,e11,hg0,hc0,hv0⟩:=(show Pvl W2.heap.size m vs (u 11) W from hd 11 (by decide) (by kernel_rfl))
   clear hd
   simp only [zzA,zzB]
   clear hl
   refine .inr ⟨rfl,fun K' hK=>?_⟩
   have HK:=Lib.hid hK
   clear hK
   simp only [layS,Act.put,zzC,zzD,zzE,Nat.zero_add,Nat.reduceAdd,e1,e4,e7,e11]
   have E1:=Lib.hid e1
   have E4:=Lib.hid e4
   have E7:=Lib.hid e7
   have E11:=Lib.hid e11
   clear e1 e4 e7 e11
   go_simp
   exact HK.out _ _ (_) (by simp [layS,updV,Act.put,E1.out,E4.out,E7.out,E11.out]) hJ (⟨g0,C0,rfl,hg0,hc0,hv0⟩) (Below.refl _ _) (fun h=>absurd h (by decide))
  ·
   clear hd
   simp only [zzA,zzB]
   clear hl
   refine .inr ⟨rfl,fun K' hK=>?_⟩
   have HK:=Lib.hid hK
   clear hK
   simp only [layS,Act.put,zzC,zzD,zzE,Nat.zero_add,Nat.reduceAdd]
   go_simp
   have hB:Below W.heap.size W (W.alloc (.cells #[.int .i64 0,.int .i64 0,.int .i64 0,.slice none 0 0] 24)):=(Below.refl _ _).alloc (Nat.le_refl _) _
   exact HK.out _ _ (.pointer (some ⟨W.heap.size,0,none⟩)) (by simp [layS,updV,Act.put]) (⟨hJ.1.later hB,Nat.le_trans hJ.2 hB.size⟩) (abox_new hJ.2) hB (fun h=>absurd h (by decide))
 intro u W hJ hd hne
 have e0:u 0=.int .u8 k:=hd 0 (by decide)
 have e1:u 1=.int .i64 k:=hd 1 (by decide)
 have e2:u 2=.string s:=hd 2 (by decide)
 have e3:u 3=.string sA:=hd 3 (by decide)
 have e4:u 4=.int .i64 A:=hd 4 (by decide)
 have e5:u 5=.string s:=hd 5 (by decide)
 have e6:u 6=.string sQ:=hd 6 (by decide)
 have e7:u 7=.int .i64 Q:=hd 7 (by decide)
 have e8:u 8=.string s:=hd 8 (by decide)
 have e9:u 9=.string sV:=hd 9 (by decide)
 have e10:u 10=.int .i64 (m:Nat):=hd 10 (by decide)
 obtain ⟨g0,C0,e11,hg0,hc0,hv0⟩:=(show Pvl W2.heap.size m vs (u 11) W from hd 11 (by decide))
 obtain ⟨g1,C1,e12,hg1,hc1,hv1⟩:=(show Pml W2.heap.size k A Q m vs (u 12) W from hd 12 (by decide))
 obtain ⟨bq,e13,hge,hcl⟩:=(show Abox W2.heap.size #[.int .i64 0,.int .i64 0,.int .i64 0,.slice none 0 0] 24 (u 13) W from hd 13 (by decide))
 clear hd hne
 simp only [layS,Act.put,zzC,zzD,zzE,Nat.zero_add,Nat.reduceAdd,List.drop_succ_cons,List.drop_zero,e0,e1,e2,e3,e4,e5,e6,e7,e8,e9,e10,e11,e12,e13]
 have hE1:=hJ.1.join (b:=bq) (Nat.le_trans hJ2.below.size hge) (fun p hp=>by simp only [List.mem_cons,List.not_mem_nil,or_false] at hp; subst hp; simp only; omega) hcl
 have hE2:=hE1.join (b:=g1) (C:=C1) (T:=2) (Nat.le_trans hJ2.below.size hg1) (fun p hp=>by
  simp only [List.mem_cons,List.not_mem_nil,or_false] at hp
  rcases hp with rfl | rfl
  ·
   intro hc
   simp only at hc
   subst hc
   have h1:W.heap[bq]?=some (.cells C1 2 (0,0)):=hc1
   rw [hcl] at h1
   simp at h1
  ·
   simp only; omega) hc1
 clear hJ hE1 hcl hc1 hJ2
 go_wp2_with (refine stop_store 24 (.tmp 7) (.tmp 33) 1 bq 0 #[.int .i64 0,.int .i64 0,.int .i64 0,.slice none 0 0] 24 4 #[.int .i64 k,.int .i64 A,.int .i64 Q,(.slice (some ⟨g1,0,none⟩) m m)].toList #[.int .i64 k,.int .i64 A,.int .i64 Q,(.slice (some ⟨g1,0,none⟩) m m)] [(g1,C1,2),(bq,#[.int .i64 k,.int .i64 A,.int .i64 Q,(.slice (some ⟨g1,0,none⟩) m m)],24),(bk1,#[.int .i64 0,.int .i64 0,.int .i64 0,.slice none 0 0],24)] rfl rfl rfl rfl sz24 hE2 rfl (by kernel_rfl) (zzF (by kernel_rfl)) (by kernel_rfl) (by kernel_rfl) (by kernel_rfl) (fun W3 hJ3=>?_))
 clear hE2
 simp only [Stop,Act.put,zzC,zzD,zzE]
 go_wp2_with (refine stop_load 24 (.tmp 7) 1 bq 0 4 #[.int .i64 k,.int .i64 A,.int .i64 Q,(.slice (some ⟨g1,0,none⟩) m m)] #[.int .i64 k,.int .i64 A,.int .i64 Q,(.slice (some ⟨g1,0,none⟩) m m)] 24 rfl rfl rfl hJ3 rfl ag24 sz24 (zzF (by kernel_rfl)) (by kernel_rfl) ?_)
 simp only [Stop,Act.put,zzC,zzD,zzE]
 go_wp2_with fail
 refine (checked_no HD.out hE (HT.out.below hJ3.below) (il_of hJ3 0 rfl hv1) HN.out (by omega)).mono ?_
 rintro e W4 ⟨rfl,hB⟩
 have hJ4:=hJ3.later hB
 clear hJ3 hB
 go_wp2_with (refine stop_store 24 (.tmp 4) (.tmp 36) 2 bk1 0 #[.int .i64 0,.int .i64 0,.int .i64 0,.slice none 0 0] 24 4 #[.int .i64 0,.int .i64 0,.int .i64 0,.slice none 0 0].toList #[.int .i64 0,.int .i64 0,.int .i64 0,.slice none 0 0] [(g1,C1,2),(bq,#[.int .i64 k,.int .i64 A,.int .i64 Q,(.slice (some ⟨g1,0,none⟩) m m)],24),(bk1,#[.int .i64 0,.int .i64 0,.int .i64 0,.slice none 0 0],24)] rfl rfl rfl rfl sz24 hJ4 rfl (by kernel_rfl) (zzF (by kernel_rfl)) (by kernel_rfl) (by kernel_rfl) (by kernel_rfl) (fun W5 hJ5=>?_))
 clear hJ4
 simp only [Stop,Act.put,zzC,zzD,zzE]
 go_wp2
 exact bodyPost_ret (v:=.tuple #[.agg #[.int .i64 0,.int .i64 0,.int .i64 0,.slice none 0 0],.int .i64 E]) (res_ct 2 Tryd.results13 hJ5 rfl ag24 sz24 (zzF (by kernel_rfl)) rfl (by kernel_rfl) rfl) rfl ⟨rfl,hJ5.below⟩
set_option maxRecDepth 100000 in
set_option maxHeartbeats 3200000 in
theorem decode_ok {w:World} {k:Int} {s:ByteArray} (hk:0≤k∧k≤255) (hs:s.size≤1000000000000000) {m:Nat} (hm:cnt k=m) (hm0:m ≠ 0) (he:s.size=6+4*m) (hde:dE k s=0) (hT:Tab w):Calls Tryd.prog 13 #[.int .u8 k,.string s] w (PDec k (dA s) (dQ s) (dV k s) w):=by
 have HT:=Lib.hid hT
 have HE:=Lib.hid he
 clear hT he
 have HM:=Lib.hid hm
 have hm6:m≤6:=by rw [← hm]; exact cnt_le k
 have e0:((m:Int) == 0)=false:=by rw [beq_eq_false_iff_ne]; omega
 have e1:((s.size:Int) != 6+(m:Int)*4)=false:=by rw [bne_eq_false_iff_eq]; have:=HE.out; omega
 have hz6:6≤s.size:=by have:=HE.out; omega
 have HN:Hid ((dV k s).length=m):=by show _=_; rw [dV_len,hm]
 have hC0:cnt k ≠ 0:=by rw [hm]; exact hm0
 have HD:Hid (err k (dA s) (dQ s) (dV k s)=dE k s):=err_dE hC0 (by rw [hm]; exact HE.out)
 obtain ⟨vs,hvs⟩:∃ vs,dV k s=vs:=⟨_,rfl⟩
 obtain ⟨A,hA⟩:∃ A:Int,((dA s:Nat):Int)=A:=⟨_,rfl⟩
 obtain ⟨Q,hQ⟩:∃ Q:Int,((dQ s:Nat):Int)=Q:=⟨_,rfl⟩
 rw [hvs,hA,hQ] at HD
 rw [hvs] at HN
 rw [hde] at HD
 have HP:Hid (∀ e W,PDec k A Q vs w e W→PDec k (dA s) (dQ s) (dV k s) w e W):=fun e W h=>by rw [hvs,hA,hQ]; exact h
 clear hm hm0 hC0 hde
 have hJ0:=es_nil w
 go_enter Tryd.func13,Tryd.ntmps13
 go_wp2_with (refine stop_alloc 24 #[.int .i64 0,.int .i64 0,.int .i64 0,.slice none 0 0] (.agg #[.int .i64 0,.int .i64 0,.int .i64 0,.slice none 0 0]) rfl rfl zv24 rfl hJ0 (fun bk1 W1 hJ1=>?_))
 clear hJ0
 simp only [Stop,Act.put,zzC,zzD,zzE]
 go_wp2_with fail
 refine (count_any k W1 (HT.out.below hJ1.below)).mono ?_
 rintro e W2 ⟨rfl,hB⟩
 have hJ2:=hJ1.later hB
 clear hJ1 hB
 rw [HM.out]
 have hlt:=hJ2.lt _ (List.mem_cons_self ..)
 simp only at hlt
 have HFA:Hid (∀ W,Calls Tryd.prog 20 #[.string (s.extract 0 4)] W (PVal (.int .i64 A) W)):=fun W=>by
  rw [← hA,← ext_take (by omega)]
  exact unsigned_any _ W (by rw [ByteArray.size_extract]; omega)
 have HFQ:Hid (∀ W,Calls Tryd.prog 20 #[.string (s.extract 4 6)] W (PVal (.int .i64 Q) W)):=fun W=>by
  rw [← hQ,← ext_mid (by omega)]
  exact unsigned_any _ W (by rw [ByteArray.size_extract]; omega)
 have HFV:Hid (∀ W,Calls Tryd.prog 21 #[.string (s.extract 6 s.size),.int .i64 (m:Nat)] W (PVals m vs W)):=fun W=>by
  have h:=values_any (s.extract 6 s.size) m W (by rw [ByteArray.size_extract]; have:=HE.out; omega) hm6
  rw [ext_end] at h
  have e:B.dv m (s.data.toList.drop 6)=vs:=by rw [← hvs,← HM.out]; rfl
  rw [e] at h
  exact h
 clear hvs hA hQ
 obtain ⟨sA,hsA⟩:∃ x,s.extract 0 4=x:=⟨_,rfl⟩
 obtain ⟨sQ,hsQ⟩:∃ x,s.extract 4 6=x:=⟨_,rfl⟩
 obtain ⟨sV,hsV⟩:∃ x,s.extract 6 s.size=x:=⟨_,rfl⟩
 rw [hsA] at HFA
 rw [hsQ] at HFQ
 rw [hsV] at HFV
 go_wp2
 refine wp_region_rel 14 [some 21,some 22,some 23,some 24,some 25,some 26,some 27,some 28,some 29,some 30,some 31,some 32,some 33,some 7] (lstP [Veq (.int .u8 k),Veq (.int .i64 k),Veq (.string s),Veq (.string sA),Veq (.int .i64 A),Veq (.string s),Veq (.string sQ),Veq (.int .i64 Q),Veq (.string s),Veq (.string sV),Veq (.int .i64 (m:Nat)),Pvl W2.heap.size m vs,Pml W2.heap.size k A Q m vs,Abox W2.heap.size #[.int .i64 0,.int .i64 0,.int .i64 0,.slice none 0 0] 24]) (fun W=>Es w W [(bk1,#[.int .i64 0,.int .i64 0,.int .i64 0,.slice none 0 0],24)]∧W2.heap.size≤W.heap.size) [] (by kernel_rfl) (by kernel_rfl) ?_ ?_ (⟨hJ2.drew,Nat.le_refl _⟩) ?_ ?_
 ·
  intro j v W W' hj h hb
  obtain rfl | rfl | rfl | rfl | rfl | rfl | rfl | rfl | rfl | rfl | rfl | rfl | rfl | rfl:j=0∨j=1∨j=2∨j=3∨j=4∨j=5∨j=6∨j=7∨j=8∨j=9∨j=10∨j=11∨j=12∨j=13:=by omega
  ·
   exact Veq.later (show Veq (.int .u8 k) v W from h) hb
  ·
   exact Veq.later (show Veq (.int .i64 k) v W from h) hb
  ·
   exact Veq.later (show Veq (.string s) v W from h) hb
  ·
   exact Veq.later (show Veq (.string sA) v W from h) hb
  ·
   exact Veq.later (show Veq (.int .i64 A) v W from h) hb
  ·
   exact Veq.later (show Veq (.string s) v W from h) hb
  ·
   exact Veq.later (show Veq (.string sQ) v W from h) hb
  ·
   exact Veq.later (show Veq (.int .i64 Q) v W from h) hb
  ·
   exact Veq.later (show Veq (.string s) v W from h) hb
  ·
   exact Veq.later (show Veq (.string sV) v W from h) hb
  ·
   exact Veq.later (show Veq (.int .i64 (m:Nat)) v W from h) hb
  ·
   exact Pvl.later (show Pvl W2.heap.size m vs v W from h) hb
  ·
   exact Pml.later (show Pml W2.heap.size k A Q m vs v W from h) hb
  ·
   exact Abox.later (show Abox W2.heap.size #[.int .i64 0,.int .i64 0,.int .i64 0,.slice none 0 0] 24 v W from h) hb
 ·
  intro j v W hj hm h
  cases hm
 ·
  intro i hl hi u W hJ hd
  obtain rfl | rfl | rfl | rfl | rfl | rfl | rfl | rfl | rfl | rfl | rfl | rfl | rfl | rfl:i=0∨i=1∨i=2∨i=3∨i=4∨i=5∨i=6∨i=7∨i=8∨i=9∨i=10∨i=11∨i=12∨i=13:=by omega
  ·
   clear hd
   simp only [zzA,zzB]
   clear hl
   refine .inr ⟨rfl,fun K' hK=>?_⟩
   have HK:=Lib.hid hK
   clear hK
   simp only [layS,Act.put,zzC,zzD,zzE,Nat.zero_add,Nat.reduceAdd]
   go_simp
   exact HK.out _ _ (.int .u8 k) (by simp [layS,updV,Act.put]) hJ (rfl) (Below.refl _ _) (fun h=>absurd h (by decide))
  ·
   have e0:u 0=.int .u8 k:=hd 0 (by decide) (by kernel_rfl)
   clear hd
   simp only [zzA,zzB]
   clear hl
   refine .inr ⟨rfl,fun K' hK=>?_⟩
   have HK:=Lib.hid hK
   clear hK
   simp only [layS,Act.put,zzC,zzD,zzE,Nat.zero_add,Nat.reduceAdd,e0]
   have E0:=Lib.hid e0
   clear e0
   have hw:IntKind.i64.wrap k=k:=IntWalk.i64_in _ ⟨by omega,by omega⟩
   go_simp
   exact HK.out _ _ (.int .i64 k) (by simp [layS,updV,Act.put,E0.out]) hJ (rfl) (Below.refl _ _) (fun h=>absurd h (by decide))
  ·
   clear hd
   simp only [zzA,zzB]
   clear hl
   refine .inr ⟨rfl,fun K' hK=>?_⟩
   have HK:=Lib.hid hK
   clear hK
   simp only [layS,Act.put,zzC,zzD,zzE,Nat.zero_add,Nat.reduceAdd]
   go_simp
   exact HK.out _ _ (.string s) (by simp [layS,updV,Act.put]) hJ (rfl) (Below.refl _ _) (fun h=>absurd h (by decide))
  ·
   have e2:u 2=.string s:=hd 2 (by decide) (by kernel_rfl)
   clear hd
   simp only [zzA,zzB]
   clear hl
   refine .inr ⟨rfl,fun K' hK=>?_⟩
   have HK:=Lib.hid hK
   clear hK
   simp only [layS,Act.put,zzC,zzD,zzE,Nat.zero_add,Nat.reduceAdd,e2]
   have E2:=Lib.hid e2
   clear e2
   go_simp
   rw [if_pos (by omega)]
   go_simp
   exact HK.out _ _ (.string sA) (by simp [layS,updV,Act.put,E2.out]) hJ (rfl) (Below.refl _ _) (fun h=>absurd h (by decide))
  ·
   have e3:u 3=.string sA:=hd 3 (by decide) (by kernel_rfl)
   clear hd
   simp only [zzA,zzB]
   clear hl
   refine .inr ⟨rfl,fun K' hK=>?_⟩
   have HK:=Lib.hid hK
   clear hK
   simp only [layS,Act.put,zzC,zzD,zzE,Nat.zero_add,Nat.reduceAdd,e3]
   have E3:=Lib.hid e3
   clear e3
   go_simp
   refine (HFA.out _).mono ?_
   rintro e W' ⟨rfl,hB⟩
   exact HK.out _ _ (.int .i64 A) (by simp [layS,updV,Act.put,E3.out]) (⟨hJ.1.later hB,Nat.le_trans hJ.2 hB.size⟩) (rfl) hB (fun h=>absurd h (by decide))
  ·
   clear hd
   simp only [zzA,zzB]
   clear hl
   refine .inr ⟨rfl,fun K' hK=>?_⟩
   have HK:=Lib.hid hK
   clear hK
   simp only [layS,Act.put,zzC,zzD,zzE,Nat.zero_add,Nat.reduceAdd]
   go_simp
   exact HK.out _ _ (.string s) (by simp [layS,updV,Act.put]) hJ (rfl) (Below.refl _ _) (fun h=>absurd h (by decide))
  ·
   have e5:u 5=.string s:=hd 5 (by decide) (by kernel_rfl)
   clear hd
   simp only [zzA,zzB]
   clear hl
   refine .inr ⟨rfl,fun K' hK=>?_⟩
   have HK:=Lib.hid hK
   clear hK
   simp only [layS,Act.put,zzC,zzD,zzE,Nat.zero_add,Nat.reduceAdd,e5]
   have E5:=Lib.hid e5
   clear e5
   go_simp
   rw [if_pos (by omega)]
   go_simp
   exact HK.out _ _ (.string sQ) (by simp [layS,updV,Act.put,E5.out]) hJ (rfl) (Below.refl _ _) (fun h=>absurd h (by decide))
  ·
   have e6:u 6=.string sQ:=hd 6 (by decide) (by kernel_rfl)
   clear hd
   simp only [zzA,zzB]
   clear hl
   refine .inr ⟨rfl,fun K' hK=>?_⟩
   have HK:=Lib.hid hK
   clear hK
   simp only [layS,Act.put,zzC,zzD,zzE,Nat.zero_add,Nat.reduceAdd,e6]
   have E6:=Lib.hid e6
   clear e6
   go_simp
   refine (HFQ.out _).mono ?_
   rintro e W' ⟨rfl,hB⟩
   exact HK.out _ _ (.int .i64 Q) (by simp [layS,updV,Act.put,E6.out]) (⟨hJ.1.later hB,Nat.le_trans hJ.2 hB.size⟩) (rfl) hB (fun h=>absurd h (by decide))
  ·
   clear hd
   simp only [zzA,zzB]
   clear hl
   refine .inr ⟨rfl,fun K' hK=>?_⟩
   have HK:=Lib.hid hK
   clear hK
   simp only [layS,Act.put,zzC,zzD,zzE,Nat.zero_add,Nat.reduceAdd]
   go_simp
   exact HK.out _ _ (.string s) (by simp [layS,updV,Act.put]) hJ (rfl) (Below.refl _ _) (fun h=>absurd h (by decide))
  ·
   have e8:u 8=.string s:=hd 8 (by decide) (by kernel_rfl)
   clear hd
   simp only [zzA,zzB]
   clear hl
   refine .inr ⟨rfl,fun K' hK=>?_⟩
   have HK:=Lib.hid hK
   clear hK
   simp only [layS,Act.put,zzC,zzD,zzE,Nat.zero_add,Nat.reduceAdd,e8]
   have E8:=Lib.hid e8
   clear e8
   go_simp
   rw [if_pos (by omega)]
   go_simp
   exact HK.out _ _ (.string sV) (by simp [layS,updV,Act.put,E8.out]) hJ (rfl) (Below.refl _ _) (fun h=>absurd h (by decide))
  ·
   clear hd
   simp only [zzA,zzB]
   clear hl
   refine .inr ⟨rfl,fun K' hK=>?_⟩
   have HK:=Lib.hid hK
   clear hK
   simp only [layS,Act.put,zzC,zzD,zzE,Nat.zero_add,Nat.reduceAdd]
   go_simp
   exact HK.out _ _ (.int .i64 (m:Nat)) (by simp [layS,updV,Act.put]) hJ (rfl) (Below.refl _ _) (fun h=>absurd h (by decide))
  ·
   have e9:u 9=.string sV:=hd 9 (by decide) (by kernel_rfl)
   have e10:u 10=.int .i64 (m:Nat):=hd 10 (by decide) (by kernel_rfl)
   clear hd
   simp only [zzA,zzB]
   clear hl
   refine .inr ⟨rfl,fun K' hK=>?_⟩
   have HK:=Lib.hid hK
   clear hK
   simp only [layS,Act.put,zzC,zzD,zzE,Nat.zero_add,Nat.reduceAdd,e9,e10]
   have E9:=Lib.hid e9
   have E10:=Lib.hid e10
   clear e9 e10
   go_simp
   refine (HFV.out _).mono ?_
   rintro e W' ⟨g2,C2,rfl,hE',hv2⟩
   have hB:=hE'.below
   exact HK.out _ _ (_) (by simp [layS,updV,Act.put,E9.out,E10.out]) (⟨hJ.1.later hB,Nat.le_trans hJ.2 hB.size⟩) (⟨g2,C2,rfl,Nat.le_trans hJ.2 (hE'.ge _ (List.mem_cons_self ..)),hE'.at' _ (List.mem_cons_self ..),hv2⟩) hB (fun h=>absurd h (by decide))
  ·
   have e1:u 1=.int .i64 k:=hd 1 (by decide) (by kernel_rfl)
   have e4:u 4=.int .i64 A:=hd 4 (by decide) (by kernel_rfl)
   have e7:u 7=.int .i64 Q:=hd 7 (by decide) (by kernel_rfl)
   obtain ⟨g0,C0,e11,hg0,hc0,hv0⟩:=(show Pvl W2.heap.size m vs (u 11) W from hd 11 (by decide) (by kernel_rfl))
   clear hd
   simp only [zzA,zzB]
   clear hl
   refine .inr ⟨rfl,fun K' hK=>?_⟩
   have HK:=Lib.hid hK
   clear hK
   simp only [layS,Act.put,zzC,zzD,zzE,Nat.zero_add,Nat.reduceAdd,e1,e4,e7,e11]
   have E1:=Lib.hid e1
   have E4:=Lib.hid e4
   have E7:=Lib.hid e7
   have E11:=Lib.hid e11
   clear e1 e4 e7 e11
   go_simp
   exact HK.out _ _ (_) (by simp [layS,updV,Act.put,E1.out,E4.out,E7.out,E11.out]) hJ (⟨g0,C0,rfl,hg0,hc0,hv0⟩) (Below.refl _ _) (fun h=>absurd h (by decide))
  ·
   clear hd
   simp only [zzA,zzB]
   clear hl
   refine .inr ⟨rfl,fun K' hK=>?_⟩
   have HK:=Lib.hid hK
   clear hK
   simp only [layS,Act.put,zzC,zzD,zzE,Nat.zero_add,Nat.reduceAdd]
   go_simp
   have hB:Below W.heap.size W (W.alloc (.cells #[.int .i64 0,.int .i64 0,.int .i64 0,.slice none 0 0] 24)):=(Below.refl _ _).alloc (Nat.le_refl _) _
   exact HK.out _ _ (.pointer (some ⟨W.heap.size,0,none⟩)) (by simp [layS,updV,Act.put]) (⟨hJ.1.later hB,Nat.le_trans hJ.2 hB.size⟩) (abox_new hJ.2) hB (fun h=>absurd h (by decide))
 intro u W hJ hd hne
 have e0:u 0=.int .u8 k:=hd 0 (by decide)
 have e1:u 1=.int .i64 k:=hd 1 (by decide)
 have e2:u 2=.string s:=hd 2 (by decide)
 have e3:u 3=.string sA:=hd 3 (by decide)
 have e4:u 4=.int .i64 A:=hd 4 (by decide)
 have e5:u 5=.string s:=hd 5 (by decide)
 have e6:u 6=.string sQ:=hd 6 (by decide)
 have e7:u 7=.int .i64 Q:=hd 7 (by decide)
 have e8:u 8=.string s:=hd 8 (by decide)
 have e9:u 9=.string sV:=hd 9 (by decide)
 have e10:u 10=.int .i64 (m:Nat):=hd 10 (by decide)
 obtain ⟨g0,C0,e11,hg0,hc0,hv0⟩:=(show Pvl W2.heap.size m vs (u 11) W from hd 11 (by decide))
 obtain ⟨g1,C1,e12,hg1,hc1,hv1⟩:=(show Pml W2.heap.size k A Q m vs (u 12) W from hd 12 (by decide))
 obtain ⟨bq,e13,hge,hcl⟩:=(show Abox W2.heap.size #[.int .i64 0,.int .i64 0,.int .i64 0,.slice none 0 0] 24 (u 13) W from hd 13 (by decide))
 clear hd hne
 simp only [layS,Act.put,zzC,zzD,zzE,Nat.zero_add,Nat.reduceAdd,List.drop_succ_cons,List.drop_zero,e0,e1,e2,e3,e4,e5,e6,e7,e8,e9,e10,e11,e12,e13]
 have hE1:=hJ.1.join (b:=bq) (Nat.le_trans hJ2.below.size hge) (fun p hp=>by simp only [List.mem_cons,List.not_mem_nil,or_false] at hp; subst hp; simp only; omega) hcl
 have hE2:=hE1.join (b:=g1) (C:=C1) (T:=2) (Nat.le_trans hJ2.below.size hg1) (fun p hp=>by
  simp only [List.mem_cons,List.not_mem_nil,or_false] at hp
  rcases hp with rfl | rfl
  ·
   intro hc
   simp only at hc
   subst hc
   have h1:W.heap[bq]?=some (.cells C1 2 (0,0)):=hc1
   rw [hcl] at h1
   simp at h1
  ·
   simp only; omega) hc1
 clear hJ hE1 hcl hc1 hJ2
 go_wp2_with (refine stop_store 24 (.tmp 7) (.tmp 33) 1 bq 0 #[.int .i64 0,.int .i64 0,.int .i64 0,.slice none 0 0] 24 4 #[.int .i64 k,.int .i64 A,.int .i64 Q,(.slice (some ⟨g1,0,none⟩) m m)].toList #[.int .i64 k,.int .i64 A,.int .i64 Q,(.slice (some ⟨g1,0,none⟩) m m)] [(g1,C1,2),(bq,#[.int .i64 k,.int .i64 A,.int .i64 Q,(.slice (some ⟨g1,0,none⟩) m m)],24),(bk1,#[.int .i64 0,.int .i64 0,.int .i64 0,.slice none 0 0],24)] rfl rfl rfl rfl sz24 hE2 rfl (by kernel_rfl) (zzF (by kernel_rfl)) (by kernel_rfl) (by kernel_rfl) (by kernel_rfl) (fun W3 hJ3=>?_))
 clear hE2
 simp only [Stop,Act.put,zzC,zzD,zzE]
 go_wp2_with (refine stop_load 24 (.tmp 7) 1 bq 0 4 #[.int .i64 k,.int .i64 A,.int .i64 Q,(.slice (some ⟨g1,0,none⟩) m m)] #[.int .i64 k,.int .i64 A,.int .i64 Q,(.slice (some ⟨g1,0,none⟩) m m)] 24 rfl rfl rfl hJ3 rfl ag24 sz24 (zzF (by kernel_rfl)) (by kernel_rfl) ?_)
 simp only [Stop,Act.put,zzC,zzD,zzE]
 go_wp2_with fail
 refine (checked_ok HD.out (HT.out.below hJ3.below) (il_of hJ3 0 rfl hv1) HN.out (by omega)).mono ?_
 rintro e W4 ⟨rfl,hB⟩
 have hJ4:=hJ3.later hB
 clear hJ3 hB
 go_wp2_with (refine stop_store 24 (.tmp 4) (.tmp 36) 2 bk1 0 #[.int .i64 0,.int .i64 0,.int .i64 0,.slice none 0 0] 24 4 #[.int .i64 k,.int .i64 A,.int .i64 Q,(.slice (some ⟨g1,0,none⟩) m m)].toList #[.int .i64 k,.int .i64 A,.int .i64 Q,(.slice (some ⟨g1,0,none⟩) m m)] [(g1,C1,2),(bq,#[.int .i64 k,.int .i64 A,.int .i64 Q,(.slice (some ⟨g1,0,none⟩) m m)],24),(bk1,#[.int .i64 k,.int .i64 A,.int .i64 Q,(.slice (some ⟨g1,0,none⟩) m m)],24)] rfl rfl rfl rfl sz24 hJ4 rfl (by kernel_rfl) (zzF (by kernel_rfl)) (by kernel_rfl) (by kernel_rfl) (by kernel_rfl) (fun W5 hJ5=>?_))
 clear hJ4
 simp only [Stop,Act.put,zzC,zzD,zzE]
 go_wp2
 exact bodyPost_ret (v:=.tuple #[.agg #[.int .i64 k,.int .i64 A,.int .i64 Q,(.slice (some ⟨g1,0,none⟩) m m)],.int .i64 0]) (res_ct 2 Tryd.results13 hJ5 rfl ag24 sz24 (zzF (by kernel_rfl)) rfl (by kernel_rfl) rfl) rfl (HP.out _ _ ⟨some ⟨g1,0,none⟩,m,m,rfl,HN.out,il_of hJ5 0 rfl hv1,hJ5.below⟩)
end Go.Proofs.YtcoenncgoepadaaDoor
