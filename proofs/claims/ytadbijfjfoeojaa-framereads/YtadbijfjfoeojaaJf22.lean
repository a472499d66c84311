/- Parts of the proof. -/
import Derived.Test.YtadbijfjfoeojaaJf0
import Derived.Test.YtadbijfjfoeojaaJf21
import Derived.Test.YtadbijfjfoeojaaJf20
import Derived.Test.YtadbijfjfoeojaaJf17
import Derived.Test.YtadbijfjfoeojaaShelf
import Derived.Lib.IndexLaws
set_option linter.unusedSimpArgs false
set_option linter.unusedVariables false
/- Package frame: the landed reader: seek, refuse. No statement of the seat is proved here. -/
namespace Go.Proofs.Ytadbijfjfoeojaa
open Go Go.RowKit
/-- The reader in block r: what is left to be read, what was told, how many were bad. -/
structure Rd (w W:World) (r:Nat) (s:ByteArray) (v:Value) (fs:Fs) (b:Nat):Prop where
 es:Es w W [(r,#[.string s,v,.int .i64 (b:Nat)],49)]
 row:W.ownsRow w.heap.size 39 2 v fs.length (fcells fs)
 off:v.ownBlock ≠ some r
theorem ext_tl (s:ByteArray) (k:Nat):(s.extract k s.size).data.toList=tl s k:=by
 rw [tl_take k s.size (Nat.le_refl _),List.take_of_length_le (by rw [tl_len]; exact Nat.le_refl _)]
/-- Behind a first byte, what seek leaves is read as all of it would be. -/
theorem seek_run (s t:ByteArray) (hs:1≤s.size) (ht:s.extract 1 s.size=t) :
  (Lib.indexByte t.data.toList 165 < 0∧W.run X.rightB (tl s 1)=W.run X.rightB (⟨#[]⟩:ByteArray).data.toList) ∨
  (∃ o:Nat,Lib.indexByte t.data.toList 165=o∧o≤t.size∧t.size+1=s.size∧W.run X.rightB (tl s 1)=W.run X.rightB (t.extract o t.size).data.toList):=by
 have hsz:t.size+1=s.size:=by rw [← ht,ByteArray.size_extract]; omega
 have el:tl s 1=t.data.toList:=by rw [← ht,ext_tl]
 rw [el]
 have hge:=Lib.indexByte_ge t.data.toList 165
 rcases Int.lt_or_le (Lib.indexByte t.data.toList 165) 0 with h | h
 ·
  refine .inl ⟨h,?_⟩
  have hm:Lib.indexByte t.data.toList 165=-1:=by omega
  have hn:=Lib.indexByte_none hm
  have:=W.run_junk (rt:=X.rightB) t.data.toList [] fun x hx e=>by
   obtain ⟨k,hk⟩:=List.mem_iff_getElem?.1 hx
   exact hn k (e ▸ hk)
  rw [List.append_nil] at this
  exact this
 ·
  obtain ⟨o,ho⟩:=Int.eq_ofNat_of_zero_le h
  obtain ⟨h1,h2⟩:=Lib.indexByte_some ho
  have hlt:=(List.getElem?_eq_some_iff.1 h1).1
  have hl:t.data.toList.length=t.size:=rfl
  refine .inr ⟨o,ho,by omega,hsz,?_⟩
  rw [ext_tl]
  have:=W.run_junk (rt:=X.rightB) (t.data.toList.take o) (t.data.toList.drop o) fun x hx e=>by
   obtain ⟨k,hk⟩:=List.mem_iff_getElem?.1 hx
   rw [List.getElem?_take] at hk
   split at hk
   ·
    next hko=>exact h2 k hko (e ▸ hk)
   ·
    cases hk
  rw [List.take_append_drop] at this
  exact this
section
variable {w W W':World} {r b:Nat} {s:ByteArray} {v:Value} {fs:Fs}
theorem Rd.later (h:Rd w W r s v fs b) (hb:Below W.heap.size W W'):Rd w W' r s v fs b:=⟨h.es.later hb,owns_below h.row hb,h.off⟩
theorem Rd.put {s':ByteArray} {b':Nat} (h:Rd w W r s v fs b) (he:Es w W' [(r,#[.string s',v,.int .i64 (b':Nat)],49)]) (hk:∀ k,k ≠ r→W'.heap[k]?=W.heap[k]?):Rd w W' r s' v fs b' :=
 ⟨he,owns_same h.row fun g hg=>hk g fun e=>h.off (e ▸ hg),h.off⟩
theorem Rd.c0 (h:Rd w W r s v fs b):W.cell? ⟨r,0,none⟩=some (.string s):=h.es.cell 0 rfl 0 rfl
theorem Rd.c1 (h:Rd w W r s v fs b):W.cell? ⟨r,1,none⟩=some v:=h.es.cell 0 rfl 1 rfl
theorem Rd.c2 (h:Rd w W r s v fs b):W.cell? ⟨r,2,none⟩=some (.int .i64 (b:Nat)):=h.es.cell 0 rfl 2 rfl
theorem szI3 (W:World):(sizeOf 3).run Try.prog W=.ok 1 W:=by kernel_rfl
theorem szI9 (W:World):(sizeOf 9).run Try.prog W=.ok 1 W:=by kernel_rfl
theorem szI30 (W:World):(sizeOf 30).run Try.prog W=.ok 1 W:=by kernel_rfl
set_option maxRecDepth 100000 in
set_option maxHeartbeats 3200000 in
theorem frefuse_any (h:Rd w W r s v fs b) (hs:2≤s.size) (hb:b≤1000000):Calls Try.prog 27 #[.pointer (some ⟨r,0,none⟩)] W fun e W'=>e=.returned (bnd 20 r)∧Rd w W' r (s.extract 2 s.size) v fs (b+1):=by
 have hmf:∀ (fn:Fn) (first cap:Array Value) (w:World),(Instr.makeFunc fn first cap).run Try.prog w=.ok (.func fn first cap) w:=fun _ _ _ _=>rfl
 have H:=Lib.hid h
 have hc:=h.c2
 clear h
 go_enter Try.func27,Try.ntmps27
 go_wp2_with (refine zso rfl (fun K hK=>wp_store 3 (.tmp 9) (.tmp 7) rfl 0 r 2 _ _ 1 [.int .i64 ((b:Int)+1)] H.out.es rfl rfl rfl szI3 rfl (show 2+1≤3 by decide) rfl (fun W1 h1 hk hz=>hK _ _ ?_)))
 simp only [Stop,Act.put,zzC,zzD,zzE]
 have h2:Rd w W1 r s v fs (b+1):=H.out.put (by exact h1) hk
 clear h1 hk hz hc H
 have H:=Lib.hid h2
 have hc:=h2.c0
 clear h2
 obtain ⟨t,ht⟩:∃ t,s.extract 2 s.size=t:=⟨_,rfl⟩
 go_wp2_with (refine zso rfl (fun K hK=>wp_store 9 (.tmp 17) (.tmp 15) rfl 0 r 0 _ _ 1 [.string t] H.out.es rfl rfl rfl szI9 rfl (show 0+1≤3 by decide) rfl (fun W1 h1 hk hz=>hK _ _ ?_)))
 simp only [Stop,Act.put,zzC,zzD,zzE]
 have h2:=Lib.hid (show Rd w W1 r t v fs (b+1) from H.out.put (by exact h1) hk)
 clear h1 hk hz hc H
 go_wp2
 go_ret
 exact ⟨rfl,by rw [ht]; exact h2.out⟩
set_option maxRecDepth 100000 in
set_option maxHeartbeats 3200000 in
theorem fseek_any (h:Rd w W r s v fs b) (hs:1≤s.size):Calls Try.prog 25 #[.pointer (some ⟨r,0,none⟩)] W fun e W'=>∃ s':ByteArray,e=.returned (bnd 20 r)∧Rd w W' r s' v fs b∧s'.size < s.size∧rn_ s'.data.toList=rn_ (tl s 1):=by
 have hmf:∀ (fn:Fn) (first cap:Array Value) (w:World),(Instr.makeFunc fn first cap).run Try.prog w=.ok (.func fn first cap) w:=fun _ _ _ _=>rfl
 have H:=Lib.hid h
 have hc:=h.c0
 clear h
 obtain ⟨t,ht⟩:∃ t,s.extract 1 s.size=t:=⟨_,rfl⟩
 have HS:=Lib.hid (seek_run s t hs ht)
 go_enter Try.func25,Try.ntmps25
 go_wp2_with (refine zso rfl (fun K hK=>wp_store 9 (.tmp 11) (.tmp 9) rfl 0 r 0 _ _ 1 [.string t] H.out.es rfl rfl rfl szI9 rfl (show 0+1≤3 by decide) rfl (fun W1 h1 hk hz=>hK _ _ ?_)))
 simp only [Stop,Act.put,zzC,zzD,zzE]
 have h2:Rd w W1 r t v fs b:=H.out.put (by exact h1) hk
 clear h1 hk hz hc H
 have H:=Lib.hid h2
 have hc:=h2.c0
 clear h2
 go_wp2_with fail
 refine (Try.strings_IndexByte t 165 _).mono ?_
 rintro e W2 ⟨rfl,rfl⟩
 rw [show ((165:Int).toNat.toUInt8)=(165:UInt8) from rfl]
 rcases HS.out with ⟨hlt,hrun⟩ | ⟨o,ho,hos,hsz,hrun⟩
 ·
  obtain ⟨z,hz⟩:∃ z,Lib.indexByte t.data.toList 165=z:=⟨_,rfl⟩
  rw [hz] at hlt ⊢
  have hd:decide (0≤z)=false:=decide_eq_false (by omega)
  have HR:=Lib.hid hrun
  clear hrun hz HS ht
  go_wp2_with (refine zso rfl (fun K hK=>wp_store 9 (.tmp 30) (.const (.string ⟨#[]⟩)) rfl 0 r 0 _ _ 1 [.string ⟨#[]⟩] H.out.es rfl rfl rfl szI9 rfl (show 0+1≤3 by decide) rfl (fun W1 h1 hk hz=>hK _ _ ?_)))
  simp only [Stop,Act.put,zzC,zzD,zzE]
  have h2:=Lib.hid (show Rd w W1 r ⟨#[]⟩ v fs b from H.out.put (by exact h1) hk)
  clear h1 hk hz hc H
  go_wp2
  go_ret
  exact ⟨⟨#[]⟩,rfl,h2.out,by show 0 < s.size; omega,HR.out.symm⟩
 ·
  rw [ho]
  obtain ⟨q,hq⟩:∃ q,t.extract o t.size=q:=⟨_,rfl⟩
  have hqs:q.size≤t.size:=by rw [← hq,ByteArray.size_extract]; omega
  rw [hq] at hrun
  have hd:decide (0≤(o:Int))=true:=decide_eq_true (by omega)
  have HR:=Lib.hid hrun
  have HQ:=Lib.hid hq
  clear hrun HS ht hq ho
  go_wp2_with (refine zso rfl (fun K hK=>wp_store 9 (.tmp 27) (.tmp 25) rfl 0 r 0 _ _ 1 [.string q] H.out.es rfl rfl (by rw [← HQ.out]; rfl) szI9 rfl (show 0+1≤3 by decide) rfl (fun W1 h1 hk hz=>hK _ _ ?_)))
  simp only [Stop,Act.put,zzC,zzD,zzE]
  have h2:=Lib.hid (show Rd w W1 r q v fs b from H.out.put (by exact h1) hk)
  clear h1 hk hz hc H
  go_wp2
  go_ret
  exact ⟨q,rfl,h2.out,by omega,HR.out.symm⟩
end
end Go.Proofs.Ytadbijfjfoeojaa
