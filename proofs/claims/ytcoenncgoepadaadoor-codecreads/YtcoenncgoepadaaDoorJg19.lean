/- Parts of the proof. -/
import Derived.Test.YtcoenncgoepadaaDoorJg0
import Derived.Test.YtcoenncgoepadaaDoorJg18
import Derived.Test.YtcoenncgoepadaaDoorJg17
import Derived.Test.YtcoenncgoepadaaDoorJg1
set_option linter.unusedSimpArgs false
set_option linter.unusedVariables false
/- Package codec: the document's Decode. No statement of the seat is proved here. -/
namespace Go.Proofs.YtcoenncgoepadaaDoor
open Go Go.RowKit
theorem run_b3 (x y z:Int) (W:World):(Instr.build 24 #[(0,.int .i64 x),(1,.int .i64 y),(2,.int .i64 z)]).run Tryd.prog W=.ok (.agg #[.int .i64 x,.int .i64 y,.int .i64 z,.slice none 0 0]) W:=by kernel_rfl
attribute [local go_sem ↓] run_b3
/-- Numbers as values. -/
def iw (l:List Int):List Value:=l.map fun x=>Value.int .i64 x
theorem iw_snoc (l:List Int) (x:Int):iw l++[.int .i64 x]=iw (l++[x]):=by unfold iw; rw [List.map_append]; rfl
theorem il_own {W:World} {base:Nat} {v:Value} {n:Nat} {vs:List Int} (h:W.ownsRow base 2 1 v n (iw vs)):∃ ad c,v=.slice ad n c∧Il W ad vs:=by
 have hl:vs.length=n:=by have:=h.1; unfold iw at this; rw [List.length_map,Nat.mul_one] at this; exact this
 rcases h.2 with ⟨rfl,h0⟩ | ⟨g,cap,cur,rfl,hb,hg,_⟩
 ·
  exact ⟨none,0,by rw [h0],fun i hi=>absurd hi (by omega)⟩
 ·
  refine ⟨_,cap,rfl,fun i hi=>⟨g,0,rfl,?_⟩⟩
  have h1:=h.cells (g:=g) rfl i (.int .i64 vs[i]) (by unfold iw; rw [List.getElem?_map,List.getElem?_eq_getElem hi]; rfl)
  rw [show (⟨g,0,none⟩:Addr).add i=⟨g,0+i,none⟩ from by unfold Addr.add; split <;> simp_all] at h1
  exact h1
theorem owns_set {w w':World} {base b:Nat} {e:TypeId} {size:Nat} {v:Value} {n:Nat} {xs:List Value} (h:w.ownsRow base e size v n xs) (hk:∀ k,k ≠ b→w'.heap[k]?=w.heap[k]?) (hb:b < base):w'.ownsRow base e size v n xs:=by
 obtain ⟨h1,h2⟩:=h
 refine ⟨h1,?_⟩
 rcases h2 with h2 | ⟨g,cap,cur,e1,hbase,hg,h3⟩
 ·
  exact .inl h2
 ·
  exact .inr ⟨g,cap,cur,e1,hbase,by rw [hk g (by omega)]; exact hg,h3⟩
theorem Es.laterB {w W W':World} {l:List (Nat × Array Value × TypeId)} {B:Nat} (h:Es w W l) (hb:Below B W W') (hw:w.heap.size≤B) (hl:∀ p,p ∈ l→p.1 < B):Es w W' l :=
 ⟨h.below.trans (hb.mono hw),fun p hp=>(hb.block p.1 (hl p hp)).trans (h.at' p hp),h.nd,h.ge⟩
theorem stop_storeK {P:Program} {ops:Array Oper} {Q:Exit→Act→World→Prop} {a:Act} {w W:World} {rest:List Oper} {o:Oper} {l:List (Nat × Array Value × TypeId)} (T:TypeId) (p x:Operand) (j b off:Nat) (C:Array Value) (T':TypeId) (n:Nat) (vs:List Value) (C':Array Value) (l':List (Nat × Array Value × TypeId)) (hg:o.guard=none) (ho:o.op=.store T p x) (hp:a.eval p=.pointer (some ⟨b,off,none⟩)) (hx:(a.eval x).cells.toList=vs) (hn:∀ W,(sizeOf T).run P W=.ok n W) (h:Es w W l) (hj:l[j]?=some (b,C,T')) (hv:vs.length=n) (hs:off+n≤C.size) (hb:vs.all (·.oneCell')=true) (hC:putC C off vs=C') (hl:l.set j (b,C',T')=l')
  (k:∀ W',Es w W' l'→(∀ k,k ≠ b→W'.heap[k]?=W.heap[k]?)→W'.heap.size=W.heap.size→Stop (wpList P ops Q rest (a.put o.dst undef) W')):wpList P ops Q (o :: rest) a W :=
 wpList_plain hg fun K hK=>wp_store T p x ho j b off C T' n vs h hj hp hx hn hv hs hb (fun W' e h1 h2=>hK _ _ (k W' (by rw [hC,hl] at e; exact e) h1 h2))
theorem szs (W:World):(sizeOf 22).run Tryd.prog W=.ok 1 W:=by kernel_rfl
theorem ext_val {s:ByteArray} {k:Int} {i:Nat} (hi:i < (dV k s).length) (hs:s.size=6+4*cnt k):(dV k s)[i]=B.un (B.nm (s.extract (6+4*i) (10+4*i)).data.toList):=by
 have hi':i < cnt k:=by rw [dV_len] at hi; exact hi
 have h1:=dv_get (cnt k) (s.data.toList.drop 6) i hi'
 have h2:(dV k s)[i]?=some (dV k s)[i]:=List.getElem?_eq_getElem hi
 have h3:some (dV k s)[i]=some (B.un (B.nm (((s.data.toList.drop 6).drop (4*i)).take 4))):=h2.symm.trans h1
 rw [Option.some.inj h3,tl_take _ _ (by omega),List.drop_drop,show 10+4*i - (6+4*i)=4 by omega]
/-- What the document's Decode tells, if there is such a kind and as many bytes. -/
def PRd (k:Int) (s:ByteArray) (w:World) (e:Ending) (w':World):Prop:=(dE k s=0∧PDec k (dA s) (dQ s) (dV k s) w e w')∨(dE k s=122∧PVal (.tuple #[.agg #[.int .i64 0,.int .i64 0,.int .i64 0,.slice none 0 0],.int .i64 122]) w e w')
set_option maxRecDepth 100000 in
set_option maxHeartbeats 3200000 in
theorem rdecode_kind {w:World} {k:Int} {s:ByteArray} (hk:0≤k∧k≤255) (hs:s.size≤1000000000000000) (he:cnt k=0) (hT:True):Calls Tryd.prog 14 #[.int .u8 k,.string s] w (PVal (.tuple #[.agg #[.int .i64 0,.int .i64 0,.int .i64 0,.slice none 0 0],.int .i64 120]) w):=by
 have HT:=Lib.hid hT
 have HE:=Lib.hid he
 clear hT he
 have HM:=HE
 have hJ0:=es_nil w
 go_enter Tryd.func14,Tryd.ntmps14
 go_wp2_with (refine stop_alloc 24 #[.int .i64 0,.int .i64 0,.int .i64 0,.slice none 0 0] (.agg #[.int .i64 0,.int .i64 0,.int .i64 0,.slice none 0 0]) rfl rfl zv24 rfl hJ0 (fun bk1 W1 hJ1=>?_))
 clear hJ0
 simp only [Stop,Act.put,zzC,zzD,zzE]
 go_wp2_with fail
 refine (rcount_any k W1).mono ?_
 rintro e W2 ⟨rfl,hB⟩
 have hJ2:=hJ1.later hB
 clear hJ1 hB
 rw [HM.out]
 go_wp2_with (refine zso rfl (fun K hK=>wp_bld (v:=.agg #[.int .i64 0,.int .i64 0,.int .i64 0,.slice none 0 0]) 24 #[] rfl rfl (fun _=>by kernel_rfl) (hK _ _ ?_)))
 simp only [Stop,Act.put,zzC,zzD,zzE]
 go_wp2_with (refine stop_store 24 (.tmp 4) (.tmp 15) 0 bk1 0 #[.int .i64 0,.int .i64 0,.int .i64 0,.slice none 0 0] 24 4 #[.int .i64 0,.int .i64 0,.int .i64 0,.slice none 0 0].toList #[.int .i64 0,.int .i64 0,.int .i64 0,.slice none 0 0] [(bk1,#[.int .i64 0,.int .i64 0,.int .i64 0,.slice none 0 0],24)] rfl rfl rfl rfl sz24 hJ2 rfl (by kernel_rfl) (zzF (by kernel_rfl)) (by kernel_rfl) (by kernel_rfl) (by kernel_rfl) (fun W3 hJ3=>?_))
 clear hJ2
 simp only [Stop,Act.put,zzC,zzD,zzE]
 go_wp2
 exact bodyPost_ret (v:=.tuple #[.agg #[.int .i64 0,.int .i64 0,.int .i64 0,.slice none 0 0],.int .i64 120]) (res_ct 0 Tryd.results14 hJ3 rfl ag24 sz24 (zzF (by kernel_rfl)) rfl (by kernel_rfl) rfl) rfl ⟨rfl,hJ3.below⟩
set_option maxRecDepth 100000 in
set_option maxHeartbeats 3200000 in
theorem rdecode_size {w:World} {k:Int} {s:ByteArray} (hk:0≤k∧k≤255) (hs:s.size≤1000000000000000) {m:Nat} (hm:cnt k=m) (hm0:m ≠ 0) (he:s.size ≠ 6+4*m) (hT:True):Calls Tryd.prog 14 #[.int .u8 k,.string s] w (PVal (.tuple #[.agg #[.int .i64 0,.int .i64 0,.int .i64 0,.slice none 0 0],.int .i64 121]) w):=by
 have HT:=Lib.hid hT
 have HE:=Lib.hid he
 clear hT he
 have HM:=Lib.hid hm
 have hm6:m≤6:=by rw [← hm]; exact cnt_le k
 have e0:((m:Int) == 0)=false:=by rw [beq_eq_false_iff_ne]; omega
 have e1:((s.size:Int) != 6+4*(m:Int))=true:=by rw [bne_iff_ne]; have:=HE.out; omega
 clear hm hm0
 have hJ0:=es_nil w
 go_enter Tryd.func14,Tryd.ntmps14
 go_wp2_with (refine stop_alloc 24 #[.int .i64 0,.int .i64 0,.int .i64 0,.slice none 0 0] (.agg #[.int .i64 0,.int .i64 0,.int .i64 0,.slice none 0 0]) rfl rfl zv24 rfl hJ0 (fun bk1 W1 hJ1=>?_))
 clear hJ0
 simp only [Stop,Act.put,zzC,zzD,zzE]
 go_wp2_with fail
 refine (rcount_any k W1).mono ?_
 rintro e W2 ⟨rfl,hB⟩
 have hJ2:=hJ1.later hB
 clear hJ1 hB
 rw [HM.out]
 go_wp2_with (refine zso rfl (fun K hK=>wp_bld (v:=.agg #[.int .i64 0,.int .i64 0,.int .i64 0,.slice none 0 0]) 24 #[] rfl rfl (fun _=>by kernel_rfl) (hK _ _ ?_)))
 simp only [Stop,Act.put,zzC,zzD,zzE]
 go_wp2_with (refine stop_store 24 (.tmp 4) (.tmp 22) 0 bk1 0 #[.int .i64 0,.int .i64 0,.int .i64 0,.slice none 0 0] 24 4 #[.int .i64 0,.int .i64 0,.int .i64 0,.slice none 0 0].toList #[.int .i64 0,.int .i64 0,.int .i64 0,.slice none 0 0] [(bk1,#[.int .i64 0,.int .i64 0,.int .i64 0,.slice none 0 0],24)] rfl rfl rfl rfl sz24 hJ2 rfl (by kernel_rfl) (zzF (by kernel_rfl)) (by kernel_rfl) (by kernel_rfl) (by kernel_rfl) (fun W3 hJ3=>?_))
 clear hJ2
 simp only [Stop,Act.put,zzC,zzD,zzE]
 go_wp2
 exact bodyPost_ret (v:=.tuple #[.agg #[.int .i64 0,.int .i64 0,.int .i64 0,.slice none 0 0],.int .i64 121]) (res_ct 0 Tryd.results14 hJ3 rfl ag24 sz24 (zzF (by kernel_rfl)) rfl (by kernel_rfl) rfl) rfl ⟨rfl,hJ3.below⟩
set_option maxRecDepth 100000 in
set_option maxHeartbeats 3200000 in
theorem rdecode_w {w:World} {k:Int} {s:ByteArray} (hk:0≤k∧k≤255) (hs:s.size≤1000000000000000) {m:Nat} (hm:cnt k=m) (hm0:m ≠ 0) (he:s.size=6+4*m) (hT:True):Calls Tryd.prog 14 #[.int .u8 k,.string s] w (PRd k s w):=by
 have HT:=Lib.hid hT
 have HE:=Lib.hid he
 clear hT he
 have HM:=Lib.hid hm
 have hm6:m≤6:=by rw [← hm]; exact cnt_le k
 have e0:((m:Int) == 0)=false:=by rw [beq_eq_false_iff_ne]; omega
 have e1:((s.size:Int) != 6+4*(m:Int))=false:=by rw [bne_eq_false_iff_eq]; have:=HE.out; omega
 have hz6:6≤s.size:=by have:=HE.out; omega
 have HN:Hid ((dV k s).length=m):=by show _=_; rw [dV_len,hm]
 have hC0:cnt k ≠ 0:=by rw [hm]; exact hm0
 have HD:Hid (err k (dA s) (dQ s) (dV k s)=dE k s):=err_dE hC0 (by rw [hm]; exact HE.out)
 obtain ⟨vs,hvs⟩:∃ vs,dV k s=vs:=⟨_,rfl⟩
 obtain ⟨A,hA⟩:∃ A:Int,((dA s:Nat):Int)=A:=⟨_,rfl⟩
 obtain ⟨Q,hQ⟩:∃ Q:Int,((dQ s:Nat):Int)=Q:=⟨_,rfl⟩
 rw [hvs,hA,hQ] at HD
 rw [hvs] at HN
 have hJ0:=es_nil w
 go_enter Tryd.func14,Tryd.ntmps14
 go_wp2_with (refine stop_alloc 24 #[.int .i64 0,.int .i64 0,.int .i64 0,.slice none 0 0] (.agg #[.int .i64 0,.int .i64 0,.int .i64 0,.slice none 0 0]) rfl rfl zv24 rfl hJ0 (fun bk1 W1 hJ1=>?_))
 clear hJ0
 simp only [Stop,Act.put,zzC,zzD,zzE]
 go_wp2_with fail
 refine (rcount_any k W1).mono ?_
 rintro e W2 ⟨rfl,hB⟩
 have hJ2:=hJ1.later hB
 clear hJ1 hB
 rw [HM.out]
 have hlt:=hJ2.lt _ (List.mem_cons_self ..)
 simp only at hlt
 have HFA:Hid (∀ W,Calls Tryd.prog 23 #[.string (s.extract 0 4)] W (PVal (.int .i64 A) W)):=fun W=>by
  rw [← hA,← ext_take (by omega)]
  exact number_any _ W (by rw [ByteArray.size_extract]; omega)
 have HFQ:Hid (∀ W,Calls Tryd.prog 23 #[.string (s.extract 4 6)] W (PVal (.int .i64 Q) W)):=fun W=>by
  rw [← hQ,← ext_mid (by omega)]
  exact number_any _ W (by rw [ByteArray.size_extract]; omega)
 have HXV:Hid (∀ i (h:i < vs.length),vs[i]=B.un (B.nm (s.extract (6+4*i) (10+4*i)).data.toList)):=by
  intro i hi
  subst hvs
  exact ext_val hi (by rw [HM.out]; exact HE.out)
 have HP:Hid (∀ e W,(dE k s=0∧PDec k A Q vs w e W)∨(dE k s=122∧PVal (.tuple #[.agg #[.int .i64 0,.int .i64 0,.int .i64 0,.slice none 0 0],.int .i64 122]) w e W)→PRd k s w e W):=fun e W h=>by
  unfold PRd
  rw [hvs,hA,hQ]
  exact h
 have HBAD:Hid (∀ i (h:i < vs.length),¬ okV vs[i]→dE k s=122):=fun i hi h=>dE_val (by rw [HM.out]; exact hm0) (by rw [HM.out]; exact HE.out) (by rw [hvs]; exact List.getElem_mem hi) h
 have HGOOD:Hid ((∀ i (h:i < vs.length),okV vs[i])→dE k s=0):=fun h=>dE_ok (by rw [HM.out]; exact hm0) (by rw [HM.out]; exact HE.out) (fun v hv=>by
  rw [hvs] at hv
  obtain ⟨i,hi,rfl⟩:=List.getElem_of_mem hv
  exact h i hi)
 clear hvs hA hQ hm0 hm HD hC0
 obtain ⟨sA,hsA⟩:∃ x,s.extract 0 4=x:=⟨_,rfl⟩
 obtain ⟨sQ,hsQ⟩:∃ x,s.extract 4 6=x:=⟨_,rfl⟩
 rw [hsA] at HFA
 rw [hsQ] at HFQ
 go_wp2
 refine wp_region_rel 10 [some 23,some 24,some 25,some 26,some 27,some 28,some 29,some 30,some 31,some 7] (lstP [Veq (.int .u8 k),Veq (.int .i64 k),Veq (.string s),Veq (.string sA),Veq (.int .i64 A),Veq (.string s),Veq (.string sQ),Veq (.int .i64 Q),Veq (.agg #[.int .i64 k,.int .i64 A,.int .i64 Q,(.slice none 0 0)]),Abox W2.heap.size #[.int .i64 0,.int .i64 0,.int .i64 0,.slice none 0 0] 24]) (fun W=>Es w W [(bk1,#[.int .i64 0,.int .i64 0,.int .i64 0,.slice none 0 0],24)]∧W2.heap.size≤W.heap.size) [] (by kernel_rfl) (by kernel_rfl) ?_ ?_ (⟨hJ2.drew,Nat.le_refl _⟩) ?_ ?_
 ·
  intro j v W W' hj h hb
  obtain rfl | rfl | rfl | rfl | rfl | rfl | rfl | rfl | rfl | rfl:j=0∨j=1∨j=2∨j=3∨j=4∨j=5∨j=6∨j=7∨j=8∨j=9:=by omega
  ·
   exact Veq.later (show Veq (.int .u8 k) v W from h) hb
  ·
   exact Veq.later (show Veq (.int .i64 k) v W from h) hb
  ·
   exact Veq.later (show Veq (.string s) v W from h) hb
  ·
   exact Veq.later (show Veq (.string sA) v W from h) hb
  ·
   exact Veq.later (show Veq (.int .i64 A) v W from h) hb
  ·
   exact Veq.later (show Veq (.string s) v W from h) hb
  ·
   exact Veq.later (show Veq (.string sQ) v W from h) hb
  ·
   exact Veq.later (show Veq (.int .i64 Q) v W from h) hb
  ·
   exact Veq.later (show Veq (.agg #[.int .i64 k,.int .i64 A,.int .i64 Q,(.slice none 0 0)]) v W from h) hb
  ·
   exact Abox.later (show Abox W2.heap.size #[.int .i64 0,.int .i64 0,.int .i64 0,.slice none 0 0] 24 v W from h) hb
 ·
  intro j v W hj hm h
  cases hm
 ·
  intro i hl hi u W hJ hd
  obtain rfl | rfl | rfl | rfl | rfl | rfl | rfl | rfl | rfl | rfl:i=0∨i=1∨i=2∨i=3∨i=4∨i=5∨i=6∨i=7∨i=8∨i=9:=by omega
  ·
   clear hd
   simp only [zzA,zzB]
   clear hl
   refine .inr ⟨rfl,fun K' hK=>?_⟩
   have HK:=Lib.hid hK
   clear hK
   simp only [layS,Act.put,zzC,zzD,zzE,Nat.zero_add,Nat.reduceAdd]
   go_simp
   exact HK.out _ _ (.int .u8 k) (by simp [layS,updV,Act.put]) hJ (rfl) (Below.refl _ _) (fun h=>absurd h (by decide))
  ·
   have e0:u 0=.int .u8 k:=hd 0 (by decide) (by kernel_rfl)
   clear hd
   simp only [zzA,zzB]
   clear hl
   refine .inr ⟨rfl,fun K' hK=>?_⟩
   have HK:=Lib.hid hK
   clear hK
   simp only [layS,Act.put,zzC,zzD,zzE,Nat.zero_add,Nat.reduceAdd,e0]
   have E0:=Lib.hid e0
   clear e0
   have hw:IntKind.i64.wrap k=k:=IntWalk.i64_in _ ⟨by omega,by omega⟩
   go_simp
   exact HK.out _ _ (.int .i64 k) (by simp [layS,updV,Act.put,E0.out]) hJ (rfl) (Below.refl _ _) (fun h=>absurd h (by decide))
  ·
   clear hd
   simp only [zzA,zzB]
   clear hl
   refine .inr ⟨rfl,fun K' hK=>?_⟩
   have HK:=Lib.hid hK
   clear hK
   simp only [layS,Act.put,zzC,zzD,zzE,Nat.zero_add,Nat.reduceAdd]
   go_simp
   exact HK.out _ _ (.string s) (by simp [layS,updV,Act.put]) hJ (rfl) (Below.refl _ _) (fun h=>absurd h (by decide))
  ·
   have e2:u 2=.string s:=hd 2 (by decide) (by kernel_rfl)
   clear hd
   simp only [zzA,zzB]
   clear hl
   refine .inr ⟨rfl,fun K' hK=>?_⟩
   have HK:=Lib.hid hK
   clear hK
   simp only [layS,Act.put,zzC,zzD,zzE,Nat.zero_add,Nat.reduceAdd,e2]
   have E2:=Lib.hid e2
   clear e2
   go_simp
   rw [if_pos (by omega)]
   go_simp
   exact HK.out _ _ (.string sA) (by simp [layS,updV,Act.put,E2.out]) hJ (rfl) (Below.refl _ _) (fun h=>absurd h (by decide))
  ·
   have e3:u 3=.string sA:=hd 3 (by decide) (by kernel_rfl)
   clear hd
   simp only [zzA,zzB]
   clear hl
   refine .inr ⟨rfl,fun K' hK=>?_⟩
   have HK:=Lib.hid hK
   clear hK
   simp only [layS,Act.put,zzC,zzD,zzE,Nat.zero_add,Nat.reduceAdd,e3]
   have E3:=Lib.hid e3
   clear e3
   go_simp
   refine (HFA.out _).mono ?_
   rintro e W' ⟨rfl,hB⟩
   exact HK.out _ _ (.int .i64 A) (by simp [layS,updV,Act.put,E3.out]) (⟨hJ.1.later hB,Nat.le_trans hJ.2 hB.size⟩) (rfl) hB (fun h=>absurd h (by decide))
  ·
   clear hd
   simp only [zzA,zzB]
   clear hl
   refine .inr ⟨rfl,fun K' hK=>?_⟩
   have HK:=Lib.hid hK
   clear hK
   simp only [layS,Act.put,zzC,zzD,zzE,Nat.zero_add,Nat.reduceAdd]
   go_simp
   exact HK.out _ _ (.string s) (by simp [layS,updV,Act.put]) hJ (rfl) (Below.refl _ _) (fun h=>absurd h (by decide))
  ·
   have e5:u 5=.string s:=hd 5 (by decide) (by kernel_rfl)
   clear hd
   simp only [zzA,zzB]
   clear hl
   refine .inr ⟨rfl,fun K' hK=>?_⟩
   have HK:=Lib.hid hK
   clear hK
   simp only [layS,Act.put,zzC,zzD,zzE,Nat.zero_add,Nat.reduceAdd,e5]
   have E5:=Lib.hid e5
   clear e5
   go_simp
   rw [if_pos (by omega)]
   go_simp
   exact HK.out _ _ (.string sQ) (by simp [layS,updV,Act.put,E5.out]) hJ (rfl) (Below.refl _ _) (fun h=>absurd h (by decide))
  ·
   have e6:u 6=.string sQ:=hd 6 (by decide) (by kernel_rfl)
   clear hd
   simp only [zzA,zzB]
   clear hl
   refine .inr ⟨rfl,fun K' hK=>?_⟩
   have HK:=Lib.hid hK
   clear hK
   simp only [layS,Act.put,zzC,zzD,zzE,Nat.zero_add,Nat.reduceAdd,e6]
   have E6:=Lib.hid e6
   clear e6
   go_simp
   refine (HFQ.out _).mono ?_
   rintro e W' ⟨rfl,hB⟩
   exact HK.out _ _ (.int .i64 Q) (by simp [layS,updV,Act.put,E6.out]) (⟨hJ.1.later hB,Nat.le_trans hJ.2 hB.size⟩) (rfl) hB (fun h=>absurd h (by decide))
  ·
   have e1:u 1=.int .i64 k:=hd 1 (by decide) (by kernel_rfl)
   have e4:u 4=.int .i64 A:=hd 4 (by decide) (by kernel_rfl)
   have e7:u 7=.int .i64 Q:=hd 7 (by decide) (by kernel_rfl)
   clear hd
   simp only [zzA,zzB]
   clear hl
   refine .inr ⟨rfl,fun K' hK=>?_⟩
   have HK:=Lib.hid hK
   clear hK
   simp only [layS,Act.put,zzC,zzD,zzE,Nat.zero_add,Nat.reduceAdd,e1,e4,e7]
   have E1:=Lib.hid e1
   have E4:=Lib.hid e4
   have E7:=Lib.hid e7
   clear e1 e4 e7
   go_simp
   exact HK.out _ _ (.agg #[.int .i64 k,.int .i64 A,.int .i64 Q,(.slice none 0 0)]) (by simp [layS,updV,Act.put,E1.out,E4.out,E7.out]) hJ (rfl) (Below.refl _ _) (fun h=>absurd h (by decide))
  ·
   clear hd
   simp only [zzA,zzB]
   clear hl
   refine .inr ⟨rfl,fun K' hK=>?_⟩
   have HK:=Lib.hid hK
   clear hK
   simp only [layS,Act.put,zzC,zzD,zzE,Nat.zero_add,Nat.reduceAdd]
   go_simp
   have hB:Below W.heap.size W (W.alloc (.cells #[.int .i64 0,.int .i64 0,.int .i64 0,.slice none 0 0] 24)):=(Below.refl _ _).alloc (Nat.le_refl _) _
   exact HK.out _ _ (.pointer (some ⟨W.heap.size,0,none⟩)) (by simp [layS,updV,Act.put]) (⟨hJ.1.later hB,Nat.le_trans hJ.2 hB.size⟩) (abox_new hJ.2) hB (fun h=>absurd h (by decide))
 intro u W hJ hd hne
 have e0:u 0=.int .u8 k:=hd 0 (by decide)
 have e1:u 1=.int .i64 k:=hd 1 (by decide)
 have e2:u 2=.string s:=hd 2 (by decide)
 have e3:u 3=.string sA:=hd 3 (by decide)
 have e4:u 4=.int .i64 A:=hd 4 (by decide)
 have e5:u 5=.string s:=hd 5 (by decide)
 have e6:u 6=.string sQ:=hd 6 (by decide)
 have e7:u 7=.int .i64 Q:=hd 7 (by decide)
 have e8:u 8=.agg #[.int .i64 k,.int .i64 A,.int .i64 Q,(.slice none 0 0)]:=hd 8 (by decide)
 obtain ⟨bq,e9,hge,hcl⟩:=(show Abox W2.heap.size #[.int .i64 0,.int .i64 0,.int .i64 0,.slice none 0 0] 24 (u 9) W from hd 9 (by decide))
 clear hd hne
 simp only [layS,Act.put,zzC,zzD,zzE,Nat.zero_add,Nat.reduceAdd,List.drop_succ_cons,List.drop_zero,e0,e1,e2,e3,e4,e5,e6,e7,e8,e9]
 have hE2:=hJ.1.join (b:=bq) (Nat.le_trans hJ2.below.size hge) (fun p hp=>by simp only [List.mem_cons,List.not_mem_nil,or_false] at hp; subst hp; simp only; omega) hcl
 clear hJ hcl hJ2
 go_wp2_with (refine stop_store 24 (.tmp 7) (.tmp 31) 0 bq 0 #[.int .i64 0,.int .i64 0,.int .i64 0,.slice none 0 0] 24 4 #[.int .i64 k,.int .i64 A,.int .i64 Q,(.slice none 0 0)].toList #[.int .i64 k,.int .i64 A,.int .i64 Q,(.slice none 0 0)] [(bq,#[.int .i64 k,.int .i64 A,.int .i64 Q,(.slice none 0 0)],24),(bk1,#[.int .i64 0,.int .i64 0,.int .i64 0,.slice none 0 0],24)] rfl rfl rfl rfl sz24 hE2 rfl (by kernel_rfl) (zzF (by kernel_rfl)) (by kernel_rfl) (by kernel_rfl) (by kernel_rfl) (fun W3 hJ3=>?_))
 clear hE2
 simp only [Stop,Act.put,zzC,zzD,zzE]
 obtain ⟨Bd,hBdef⟩:∃ Bd,Bd=W3.heap.size:=⟨_,rfl⟩
 have hbq:bq < Bd:=by rw [hBdef]; exact hJ3.lt (bq,#[.int .i64 k,.int .i64 A,.int .i64 Q,(.slice none 0 0)],24) (List.mem_cons_self ..)
 have hbk:bk1 < Bd:=by rw [hBdef]; exact hJ3.lt (bk1,#[.int .i64 0,.int .i64 0,.int .i64 0,.slice none 0 0],24) (List.mem_cons_of_mem _ (List.mem_cons_self ..))
 have hwB:w.heap.size≤Bd:=by rw [hBdef]; exact hJ3.below.size
 have hBl:Bd≤W3.heap.size:=by rw [hBdef]; exact Nat.le_refl _
 clear hBdef hsA hsQ
 obtain ⟨i0,hi0,hz0,hzz1,hzz2⟩:=info_parts info64
 have HI:=Lib.hid (And.intro hi0 (And.intro hz0 (And.intro hzz1 hzz2)))
 clear hi0 hz0 hzz1 hzz2
 go_wp2
 go_loopg [8] m (fun g jv wx=>∃ (i:Nat) (v:Value),i+g=m∧jv=.int .i64 i∧Es w wx [(bq,#[.int .i64 k,.int .i64 A,.int .i64 Q,v],24),(bk1,#[.int .i64 0,.int .i64 0,.int .i64 0,.slice none 0 0],24)]∧wx.ownsRow Bd 2 1 v i (iw (vs.take i))∧Hid (∀ j (hj:j < vs.length),j < i→okV vs[j])∧Bd≤wx.heap.size)
 case atStart=>exact ⟨0,.slice none 0 0,by omega,rfl,hJ3,by rw [List.take_zero]; exact World.ownsRow_nil _ _ _ _,fun j _ h=>absurd h (Nat.not_lt_zero _),hBl⟩
 case round =>
  clear hJ3 hBl
  obtain ⟨i,v,hi,rfl,hE,how,HO,hBl⟩:=hrel
  obtain ⟨ad,c,rfl,hil⟩:=il_own how
  cases gk with
  | zero =>
   obtain rfl:i=m:=by omega
   have hll:¬ (i:Int) < (i:Int):=by omega
   have HG:Hid (dE k s=0):=HGOOD.out (fun j hj=>HO.out j hj (by rw [HN.out] at hj; exact hj))
   clear hil
   go_wp2_with (refine stop_load 24 (.tmp 7) 0 bq 0 4 #[.int .i64 k,.int .i64 A,.int .i64 Q,(.slice ad i c)] #[.int .i64 k,.int .i64 A,.int .i64 Q,(.slice ad i c)] 24 rfl rfl rfl hE rfl ag24 sz24 (zzF (by kernel_rfl)) (by kernel_rfl) ?_)
   simp only [Stop,Act.put,zzC,zzD,zzE]
   go_wp2_with (refine stop_storeK 24 (.tmp 4) (.tmp 59) 1 bk1 0 #[.int .i64 0,.int .i64 0,.int .i64 0,.slice none 0 0] 24 4 #[.int .i64 k,.int .i64 A,.int .i64 Q,(.slice ad i c)].toList #[.int .i64 k,.int .i64 A,.int .i64 Q,(.slice ad i c)] [(bq,#[.int .i64 k,.int .i64 A,.int .i64 Q,(.slice ad i c)],24),(bk1,#[.int .i64 k,.int .i64 A,.int .i64 Q,(.slice ad i c)],24)] rfl rfl rfl rfl sz24 hE rfl (by kernel_rfl) (zzF (by kernel_rfl)) (by kernel_rfl) (by kernel_rfl) (by kernel_rfl) (fun W21 hJ21 hk21 _=>?_))
   clear hE
   simp only [Stop,Act.put,zzC,zzD,zzE]
   have how2:=owns_set how hk21 hbk
   rw [List.take_of_length_le (by rw [HN.out]; omega)] at how2
   obtain ⟨ad2,c2,he2,hil⟩:=il_own how2
   cases he2
   clear how how2 hk21
   go_wp2
   exact bodyPost_ret (v:=.tuple #[.agg #[.int .i64 k,.int .i64 A,.int .i64 Q,(.slice ad i c)],.int .i64 0]) (res_ct 1 Tryd.results14 hJ21 rfl ag24 sz24 (zzF (by kernel_rfl)) rfl (by kernel_rfl) rfl) rfl (HP.out _ _ (.inl ⟨HG.out,ad,i,c,rfl,HN.out,hil,hJ21.below⟩))
  | succ r =>
   have hlt2:(i:Int) < (m:Int):=by omega
   have hin:i < vs.length:=by rw [HN.out]; omega
   have hle:10+4*i≤s.size:=by have:=HE.out; omega
   have c3:=hE.cell 0 rfl 3 (v:=.slice ad i c) rfl
   clear hil
   go_wp2_with fail
   refine (number_any (s.extract (6+4*i) (10+4*i)) wr (by rw [ByteArray.size_extract]; omega)).mono ?_
   rintro e W7 ⟨rfl,hB⟩
   have hE7:=hE.later hB
   have how7:=owns_on how hB
   have hBl7:Bd≤W7.heap.size:=Nat.le_trans hBl hB.size
   have c3':=cell_on c3 hB
   clear c3 hE how hB hBl
   obtain ⟨u,hu⟩:∃ u,B.nm (s.extract (6+4*i) (10+4*i)).data.toList=u:=⟨_,rfl⟩
   have hul:u < 4294967296:=by
    have h1:=nm_lt (s.extract (6+4*i) (10+4*i)).data.toList
    rw [hu] at h1
    have h2:(s.extract (6+4*i) (10+4*i)).data.toList.length=4:=by
     show (s.extract (6+4*i) (10+4*i)).size=4
     rw [ByteArray.size_extract]
     omega
    rw [h2] at h1
    exact h1
   have HXI:Hid (vs[i]=B.un u):=by show _=_; rw [HXV.out i hin,hu]
   rw [hu]
   clear hu
   by_cases hg:2147483648≤u
   ·
    have d:decide (2147483648≤(u:Int))=true:=decide_eq_true (by omega)
    obtain ⟨x,hx⟩:∃ x:Int,(u:Int) - 4294967296=x:=⟨_,rfl⟩
    have HX:Hid (vs[i]=x):=by show _=_; rw [HXI.out,← hx]; unfold B.un; rw [if_pos hg]
    have hxb:-2147483648≤x∧x < 0:=by omega
    by_cases hlow:x=-2147483648
    ·
     have d2:(x == -2147483648)=true:=by rw [hlow]; rfl
     have HG:Hid (dE k s=122):=HBAD.out i hin (by rw [HX.out]; unfold okV; omega)
     clear hlow hg
     clear how7 c3'
     go_wp2_with (refine zso rfl (fun K hK=>wp_bld (v:=.agg #[.int .i64 0,.int .i64 0,.int .i64 0,.slice none 0 0]) 24 #[] rfl rfl (fun _=>by kernel_rfl) (hK _ _ ?_)))
     simp only [Stop,Act.put,zzC,zzD,zzE]
     go_wp2_with (refine stop_store 24 (.tmp 4) (.tmp 52) 1 bk1 0 #[.int .i64 0,.int .i64 0,.int .i64 0,.slice none 0 0] 24 4 #[.int .i64 0,.int .i64 0,.int .i64 0,.slice none 0 0].toList #[.int .i64 0,.int .i64 0,.int .i64 0,.slice none 0 0] [(bq,#[.int .i64 k,.int .i64 A,.int .i64 Q,(.slice ad i c)],24),(bk1,#[.int .i64 0,.int .i64 0,.int .i64 0,.slice none 0 0],24)] rfl rfl rfl rfl sz24 hE7 rfl (by kernel_rfl) (zzF (by kernel_rfl)) (by kernel_rfl) (by kernel_rfl) (by kernel_rfl) (fun W21 hJ21=>?_))
     clear hE7
     simp only [Stop,Act.put,zzC,zzD,zzE]
     go_wp2
     exact bodyPost_ret (v:=.tuple #[.agg #[.int .i64 0,.int .i64 0,.int .i64 0,.slice none 0 0],.int .i64 122]) (res_ct 1 Tryd.results14 hJ21 rfl ag24 sz24 (zzF (by kernel_rfl)) rfl (by kernel_rfl) rfl) rfl (HP.out _ _ (.inr ⟨HG.out,rfl,hJ21.below⟩))
    ·
     have d2:(x == -2147483648)=false:=by rw [beq_eq_false_iff_ne]; exact hlow
     have HOK:Hid (okV vs[i]):=by show okV _; rw [HX.out]; unfold okV; omega
     clear hlow hg
     go_wp2_with (first
      | (at_builtin; refine wpList_append_own _ rfl _ _ 22 rfl Bd 2 i0 (.int .i64 0) 1 8 ub64 HI.out.1 HI.out.2.1 HI.out.2.2.1 HI.out.2.2.2 rfl (by decide) _ _ _ rfl (how7.alloc _) ⟨W7.heap.size,0,none⟩ 1 1 [.int .i64 x] rfl rfl ?c1 ?c2 ?c3 ?c4 ?c5 ?_)
      | fail)
     case c1=>exact cell_one_new _ _ _
     case c2=>intro u hu; simp at hu; subst hu; rfl
     case c3=>unfold maxLen; omega
     case c4=>omega
     case c5=>simp; omega
     intro v' w3 hown' hgrow _
     rw [iw_snoc,← HX.out,← List.take_succ_eq_append_getElem hin] at hown'
     have hb3:Below Bd W7 w3:=((Below.refl _ _).alloc hBl7 _).grown hgrow (by simp; omega) (fun q hq=>(how7.lt q hq).1)
     obtain ⟨ad2,c2,rfl,_⟩:=il_own hown'
     have hE8:=hE7.laterB hb3 hwB (fun p hp=>by
      simp only [List.mem_cons,List.not_mem_nil,or_false] at hp
      rcases hp with rfl | rfl
      ·
       exact hbq
      ·
       exact hbk)
     have hBl8:Bd≤w3.heap.size:=Nat.le_trans hBl7 hb3.size
     clear hgrow how7 hE7 c3' hBl7 hb3
     go_wp2_with (refine stop_storeK 22 (.tmp 58) (.tmp 57) 0 bq 3 #[.int .i64 k,.int .i64 A,.int .i64 Q,(.slice ad i c)] 24 1 [.slice ad2 (i+1) c2] #[.int .i64 k,.int .i64 A,.int .i64 Q,(.slice ad2 (i+1) c2)] [(bq,#[.int .i64 k,.int .i64 A,.int .i64 Q,(.slice ad2 (i+1) c2)],24),(bk1,#[.int .i64 0,.int .i64 0,.int .i64 0,.slice none 0 0],24)] rfl rfl rfl rfl szs hE8 rfl rfl (zzF (by kernel_rfl)) (by kernel_rfl) (by kernel_rfl) (by kernel_rfl) (fun W9 hE9 hk9 hz9=>?_))
     simp only [Stop,Act.put,zzC,zzD,zzE]
     have how9:=owns_set hown' hk9 hbq
     have hBl9:Bd≤W9.heap.size:=by omega
     have HO2:Hid (∀ j (hj:j < vs.length),j < i+1→okV vs[j]):=fun j hj hji=>by
      by_cases ej:j=i
      ·
       subst ej; exact HOK.out
      ·
       exact HO.out j hj (by omega)
     clear hown' hE8 hk9 hz9 hBl8
     go_wp2
     go_roundg r
     case measure=>omega
     case rel=>exact ⟨i+1,_,by omega,by go_num,hE9,how9,HO2,hBl9⟩
   ·
    have d:decide (2147483648≤(u:Int))=false:=decide_eq_false (by omega)
    obtain ⟨x,hx⟩:∃ x:Int,(u:Int)=x:=⟨_,rfl⟩
    have HX:Hid (vs[i]=x):=by show _=_; rw [HXI.out,← hx]; unfold B.un; rw [if_neg hg]
    have hxb:0≤x∧x≤2147483647:=by omega
    have d2:(x == -2147483648)=false:=by rw [beq_eq_false_iff_ne]; omega
    have HOK:Hid (okV vs[i]):=by show okV _; rw [HX.out]; unfold okV; omega
    rw [hx] at d ⊢
    clear hg hx hul HXI
    go_wp2_with (first
     | (at_builtin; refine wpList_append_own _ rfl _ _ 22 rfl Bd 2 i0 (.int .i64 0) 1 8 ub64 HI.out.1 HI.out.2.1 HI.out.2.2.1 HI.out.2.2.2 rfl (by decide) _ _ _ rfl (how7.alloc _) ⟨W7.heap.size,0,none⟩ 1 1 [.int .i64 x] rfl rfl ?c1 ?c2 ?c3 ?c4 ?c5 ?_)
     | fail)
    case c1=>exact cell_one_new _ _ _
    case c2=>intro u hu; simp at hu; subst hu; rfl
    case c3=>unfold maxLen; omega
    case c4=>omega
    case c5=>simp; omega
    intro v' w3 hown' hgrow _
    rw [iw_snoc,← HX.out,← List.take_succ_eq_append_getElem hin] at hown'
    have hb3:Below Bd W7 w3:=((Below.refl _ _).alloc hBl7 _).grown hgrow (by simp; omega) (fun q hq=>(how7.lt q hq).1)
    obtain ⟨ad2,c2,rfl,_⟩:=il_own hown'
    have hE8:=hE7.laterB hb3 hwB (fun p hp=>by
     simp only [List.mem_cons,List.not_mem_nil,or_false] at hp
     rcases hp with rfl | rfl
     ·
      exact hbq
     ·
      exact hbk)
    have hBl8:Bd≤w3.heap.size:=Nat.le_trans hBl7 hb3.size
    clear hgrow how7 hE7 c3' hBl7 hb3
    go_wp2_with (refine stop_storeK 22 (.tmp 58) (.tmp 57) 0 bq 3 #[.int .i64 k,.int .i64 A,.int .i64 Q,(.slice ad i c)] 24 1 [.slice ad2 (i+1) c2] #[.int .i64 k,.int .i64 A,.int .i64 Q,(.slice ad2 (i+1) c2)] [(bq,#[.int .i64 k,.int .i64 A,.int .i64 Q,(.slice ad2 (i+1) c2)],24),(bk1,#[.int .i64 0,.int .i64 0,.int .i64 0,.slice none 0 0],24)] rfl rfl rfl rfl szs hE8 rfl rfl (zzF (by kernel_rfl)) (by kernel_rfl) (by kernel_rfl) (by kernel_rfl) (fun W9 hE9 hk9 hz9=>?_))
    simp only [Stop,Act.put,zzC,zzD,zzE]
    have how9:=owns_set hown' hk9 hbq
    have hBl9:Bd≤W9.heap.size:=by omega
    have HO2:Hid (∀ j (hj:j < vs.length),j < i+1→okV vs[j]):=fun j hj hji=>by
     by_cases ej:j=i
     ·
      subst ej; exact HOK.out
     ·
      exact HO.out j hj (by omega)
    clear hown' hE8 hk9 hz9 hBl8
    go_wp2
    go_roundg r
    case measure=>omega
    case rel=>exact ⟨i+1,_,by omega,by go_num,hE9,how9,HO2,hBl9⟩
/-- Are two measurements one? -/
def sameM (k a q:Int) (vs:List Int) (k' a' q':Int) (us:List Int):Bool:=decide (k=k'∧a=a'∧q=q'∧vs=us)
set_option maxRecDepth 100000 in
set_option maxHeartbeats 3200000 in
theorem same12_w {w:World} {k a q k' a' q':Int} {ad ad':Option Addr} {n c m c':Nat} {vs us:List Int} (hv:Il w ad vs) (hu:Il w ad' us) (hn:vs.length=n) (hm:us.length=m) (hnb:n≤20000000000000) (hmb:m≤20000000000000):Calls Tryd.prog 15 #[.agg #[.int .i64 k,.int .i64 a,.int .i64 q,(.slice ad n c)],.agg #[.int .i64 k',.int .i64 a',.int .i64 q',(.slice ad' m c')]] w (PVal (.bool (sameM k a q vs k' a' q' us)) w):=by
 have HV:=Lib.hid hv
 have HU:=Lib.hid hu
 have HN:=Lib.hid hn
 have HM:=Lib.hid hm
 clear hv hu hn hm
 have hJ0:=es_nil w
 go_enter Tryd.func15,Tryd.ntmps15
 go_wp2_with (refine stop_box 24 (.tmp 0) #[.int .i64 k,.int .i64 a,.int .i64 q,(.slice ad n c)] rfl rfl rfl hJ0 (fun bk1 W1 hJ1=>?_))
 clear hJ0
 simp only [Stop,Act.put,zzC,zzD,zzE]
 go_wp2_with (refine stop_box 24 (.tmp 1) #[.int .i64 k',.int .i64 a',.int .i64 q',(.slice ad' m c')] rfl rfl rfl hJ1 (fun bk2 W2 hJ2=>?_))
 clear hJ1
 simp only [Stop,Act.put,zzC,zzD,zzE]
 have hM1:=Mb.of hJ2 1 rfl
 have hM2:=Mb.of hJ2 0 rfl
 have hB:=hJ2.below
 clear hJ2
 have a0:=hM1.c0
 have a1:=hM1.c1
 have a2:=hM1.c2
 have a3:=hM1.c3
 have z0:=hM2.c0
 have z1:=hM2.c1
 have z2:=hM2.c2
 have z3:=hM2.c3
 by_cases hk:k=k'
 rotate_left
 ·
  have e0:(k != k')=true:=by rw [bne_iff_ne]; exact hk
  have HR:Hid (sameM k a q vs k' a' q' us=false):=decide_eq_false (fun h=>hk h.1)
  clear hk
  go_wp2
  go_ret
  exact ⟨congrArg (fun b=>Ending.returned (.bool b)) HR.out.symm,hB⟩
 have e0:(k != k')=false:=by rw [bne_eq_false_iff_eq]; exact hk
 have Hk:=Lib.hid hk
 clear hk
 by_cases ha:a=a'
 rotate_left
 ·
  have e1:(a != a')=true:=by rw [bne_iff_ne]; exact ha
  have HR:Hid (sameM k a q vs k' a' q' us=false):=decide_eq_false (fun h=>ha h.2.1)
  clear ha
  go_wp2
  go_ret
  exact ⟨congrArg (fun b=>Ending.returned (.bool b)) HR.out.symm,hB⟩
 have e1:(a != a')=false:=by rw [bne_eq_false_iff_eq]; exact ha
 have Ha:=Lib.hid ha
 clear ha
 by_cases hq:q=q'
 rotate_left
 ·
  have e2:(q != q')=true:=by rw [bne_iff_ne]; exact hq
  have HR:Hid (sameM k a q vs k' a' q' us=false):=decide_eq_false (fun h=>hq h.2.2.1)
  clear hq
  go_wp2
  go_ret
  exact ⟨congrArg (fun b=>Ending.returned (.bool b)) HR.out.symm,hB⟩
 have e2:(q != q')=false:=by rw [bne_eq_false_iff_eq]; exact hq
 have Hq:=Lib.hid hq
 clear hq
 by_cases hnm:n=m
 rotate_left
 ·
  have e3:((n:Int) != (m:Int))=true:=by rw [bne_iff_ne]; omega
  have HR:Hid (sameM k a q vs k' a' q' us=false):=decide_eq_false (fun h=>hnm (by rw [← HN.out,← HM.out,h.2.2.2]))
  clear hnm
  go_wp2
  go_ret
  exact ⟨congrArg (fun b=>Ending.returned (.bool b)) HR.out.symm,hB⟩
 have e3:((n:Int) != (m:Int))=false:=by rw [bne_eq_false_iff_eq]; omega
 have HL:Hid (vs.length=us.length):=by show _=_; rw [HN.out,HM.out]; exact hnm
 clear hnm
 go_wp2
 clear a0 a1 a2 a3 z0 z1 z2 z3 e0 e1 e2 e3
 go_loopg [5] n (fun g jv wx=>∃ i:Nat,i+g=n∧jv=.int .i64 i∧Hid (vs.take i=us.take i)∧Mb wx bk1 k a q (.slice ad n c)∧Mb wx bk2 k' a' q' (.slice ad' m c')∧Below w.heap.size w wx)
 case atStart=>exact ⟨0,by omega,rfl,rfl,hM1,hM2,hB⟩
 case round =>
  clear hM1 hM2 hB
  obtain ⟨i,hi,rfl,HT,hM1,hM2,hB⟩:=hrel
  have a3:=hM1.c3
  cases gk with
  | zero =>
   obtain rfl:i=n:=by omega
   have hlt:¬ (i:Int) < (i:Int):=by omega
   have HR:Hid (sameM k a q vs k' a' q' us=true):=decide_eq_true ⟨Hk.out,Ha.out,Hq.out,by
    have h:=HT.out
    have h1:=HN.out
    have h2:=HL.out
    rw [List.take_of_length_le (by omega),List.take_of_length_le (by omega)] at h
    exact h⟩
   go_wp2
   go_ret
   exact ⟨congrArg (fun b=>Ending.returned (.bool b)) HR.out.symm,hB⟩
  | succ r =>
   have hlt:(i:Int) < (n:Int):=by omega
   have hin:i < vs.length:=by rw [HN.out]; omega
   have him:i < us.length:=by rw [← HL.out]; exact hin
   have HIR:=Lib.hid hi
   have hmi:i < m:=by have:=HM.out; omega
   obtain ⟨bx,ox,rfl,hc1⟩:=(HV.out.below hB) i hin
   obtain ⟨by',oy,rfl,hc2⟩:=(HU.out.below hB) i him
   obtain ⟨x,hx⟩:∃ x,vs[i]=x:=⟨_,rfl⟩
   obtain ⟨y,hy⟩:∃ y,us[i]=y:=⟨_,rfl⟩
   rw [hx] at hc1
   rw [hy] at hc2
   have HX:=Lib.hid hx
   have HY:=Lib.hid hy
   clear hx hy
   go_wp2
   clear a3
   refine wp_region_vals 11 [some 41,some 42,some 43,some 44,some 45,some 46,some 47,some 48,some 49,some 50,some 51] (lstV [.pointer (some ⟨bk1,3,none⟩),.slice (some ⟨bx,ox,none⟩) n c,.int .i64 (i:Nat),.pointer (some ⟨bx,ox+i,none⟩),.int .i64 x,.pointer (some ⟨bk2,3,none⟩),.slice (some ⟨by',oy,none⟩) m c',.int .i64 (i:Nat),.pointer (some ⟨by',oy+i,none⟩),.int .i64 y,.bool (x != y)]) (fun W=>Mb W bk1 k a q (.slice (some ⟨bx,ox,none⟩) n c)∧Mb W bk2 k' a' q' (.slice (some ⟨by',oy,none⟩) m c')∧W.cell? ⟨bx,ox+i,none⟩=some (.int .i64 x)∧W.cell? ⟨by',oy+i,none⟩=some (.int .i64 y)∧Below w.heap.size w W) (by kernel_rfl) (by kernel_rfl) (by decide) (⟨hM1.below (Below.refl _ _).drew,hM2.below (Below.refl _ _).drew,cell_on hc1 (Below.refl _ _).drew,cell_on hc2 (Below.refl _ _).drew,hB.drew⟩) ?_ ?_
   ·
    intro i hl hi u W hJ hd
    obtain rfl | rfl | rfl | rfl | rfl | rfl | rfl | rfl | rfl | rfl | rfl:i=0∨i=1∨i=2∨i=3∨i=4∨i=5∨i=6∨i=7∨i=8∨i=9∨i=10:=by omega
    ·
     clear hd
     simp only [zzA,zzB]
     clear hl
     refine .inr ⟨rfl,fun K' hK=>?_⟩
     have HK:=Lib.hid hK
     clear hK
     simp only [layS,Act.put,zzC,zzD,zzE,Nat.zero_add,Nat.reduceAdd]
     go_simp
     exact HK.out _ _ (by simp [layS,updV,lstV,Act.put]) hJ
    ·
     have e0:u 0=.pointer (some ⟨bk1,3,none⟩):=hd 0 (by kernel_rfl)
     clear hd
     simp only [zzA,zzB]
     clear hl
     refine .inr ⟨rfl,fun K' hK=>?_⟩
     have HK:=Lib.hid hK
     clear hK
     simp only [layS,Act.put,zzC,zzD,zzE,Nat.zero_add,Nat.reduceAdd,e0]
     have E0:=Lib.hid e0
     clear e0
     have hcell:=hJ.1.c3
     go_simp
     exact HK.out _ _ (by simp [layS,updV,lstV,Act.put,E0.out]) hJ
    ·
     clear hd
     simp only [zzA,zzB]
     clear hl
     refine .inr ⟨rfl,fun K' hK=>?_⟩
     have HK:=Lib.hid hK
     clear hK
     simp only [layS,Act.put,zzC,zzD,zzE,Nat.zero_add,Nat.reduceAdd]
     go_simp
     exact HK.out _ _ (by simp [layS,updV,lstV,Act.put]) hJ
    ·
     have e1:u 1=.slice (some ⟨bx,ox,none⟩) n c:=hd 1 (by kernel_rfl)
     have e2:u 2=.int .i64 (i:Nat):=hd 2 (by kernel_rfl)
     clear hd
     simp only [zzA,zzB]
     clear hl
     refine .inr ⟨rfl,fun K' hK=>?_⟩
     have HK:=Lib.hid hK
     clear hK
     simp only [layS,Act.put,zzC,zzD,zzE,Nat.zero_add,Nat.reduceAdd,e1,e2]
     have E1:=Lib.hid e1
     have E2:=Lib.hid e2
     clear e1 e2
     go_simp
     exact HK.out _ _ (by simp [layS,updV,lstV,Act.put,E1.out,E2.out]) hJ
    ·
     have e3:u 3=.pointer (some ⟨bx,ox+i,none⟩):=hd 3 (by kernel_rfl)
     clear hd
     simp only [zzA,zzB]
     clear hl
     refine .inr ⟨rfl,fun K' hK=>?_⟩
     have HK:=Lib.hid hK
     clear hK
     simp only [layS,Act.put,zzC,zzD,zzE,Nat.zero_add,Nat.reduceAdd,e3]
     have E3:=Lib.hid e3
     clear e3
     have hcell:=hJ.2.2.1
     go_simp
     exact HK.out _ _ (by simp [layS,updV,lstV,Act.put,E3.out]) hJ
    ·
     clear hd
     simp only [zzA,zzB]
     clear hl
     refine .inr ⟨rfl,fun K' hK=>?_⟩
     have HK:=Lib.hid hK
     clear hK
     simp only [layS,Act.put,zzC,zzD,zzE,Nat.zero_add,Nat.reduceAdd]
     go_simp
     exact HK.out _ _ (by simp [layS,updV,lstV,Act.put]) hJ
    ·
     have e5:u 5=.pointer (some ⟨bk2,3,none⟩):=hd 5 (by kernel_rfl)
     clear hd
     simp only [zzA,zzB]
     clear hl
     refine .inr ⟨rfl,fun K' hK=>?_⟩
     have HK:=Lib.hid hK
     clear hK
     simp only [layS,Act.put,zzC,zzD,zzE,Nat.zero_add,Nat.reduceAdd,e5]
     have E5:=Lib.hid e5
     clear e5
     have hcell:=hJ.2.1.c3
     go_simp
     exact HK.out _ _ (by simp [layS,updV,lstV,Act.put,E5.out]) hJ
    ·
     clear hd
     simp only [zzA,zzB]
     clear hl
     refine .inr ⟨rfl,fun K' hK=>?_⟩
     have HK:=Lib.hid hK
     clear hK
     simp only [layS,Act.put,zzC,zzD,zzE,Nat.zero_add,Nat.reduceAdd]
     go_simp
     exact HK.out _ _ (by simp [layS,updV,lstV,Act.put]) hJ
    ·
     have e6:u 6=.slice (some ⟨by',oy,none⟩) m c':=hd 6 (by kernel_rfl)
     have e7:u 7=.int .i64 (i:Nat):=hd 7 (by kernel_rfl)
     clear hd
     simp only [zzA,zzB]
     clear hl
     refine .inr ⟨rfl,fun K' hK=>?_⟩
     have HK:=Lib.hid hK
     clear hK
     simp only [layS,Act.put,zzC,zzD,zzE,Nat.zero_add,Nat.reduceAdd,e6,e7]
     have E6:=Lib.hid e6
     have E7:=Lib.hid e7
     clear e6 e7
     go_simp
     exact HK.out _ _ (by simp [layS,updV,lstV,Act.put,E6.out,E7.out]) hJ
    ·
     have e8:u 8=.pointer (some ⟨by',oy+i,none⟩):=hd 8 (by kernel_rfl)
     clear hd
     simp only [zzA,zzB]
     clear hl
     refine .inr ⟨rfl,fun K' hK=>?_⟩
     have HK:=Lib.hid hK
     clear hK
     simp only [layS,Act.put,zzC,zzD,zzE,Nat.zero_add,Nat.reduceAdd,e8]
     have E8:=Lib.hid e8
     clear e8
     have hcell:=hJ.2.2.2.1
     go_simp
     exact HK.out _ _ (by simp [layS,updV,lstV,Act.put,E8.out]) hJ
    ·
     have e4:u 4=.int .i64 x:=hd 4 (by kernel_rfl)
     have e9:u 9=.int .i64 y:=hd 9 (by kernel_rfl)
     clear hd
     simp only [zzA,zzB]
     clear hl
     refine .inr ⟨rfl,fun K' hK=>?_⟩
     have HK:=Lib.hid hK
     clear hK
     simp only [layS,Act.put,zzC,zzD,zzE,Nat.zero_add,Nat.reduceAdd,e4,e9]
     have E4:=Lib.hid e4
     have E9:=Lib.hid e9
     clear e4 e9
     go_simp
     exact HK.out _ _ (by simp [layS,updV,lstV,Act.put,E4.out,E9.out]) hJ
   intro W hJ
   simp only [layS,lstV,Act.put,zzC,zzD,zzE,Nat.zero_add,Nat.reduceAdd,List.getD_cons_zero,List.getD_cons_succ,List.drop_succ_cons,List.drop_zero,List.drop_nil]
   obtain ⟨hM1',hM2',hc1',hc2',hB'⟩:=hJ
   clear hM1 hM2 hc1 hc2 hB hi
   by_cases hxy:x=y
   ·
    have e:(x != y)=false:=by rw [bne_eq_false_iff_eq]; exact hxy
    have HT2:Hid (vs.take (i+1)=us.take (i+1)):=by
     show _=_
     rw [List.take_succ_eq_append_getElem hin,List.take_succ_eq_append_getElem him,HT.out,HX.out,HY.out,hxy]
    clear hxy
    go_wp2
    go_roundg r
    case measure=>omega
    case rel=>exact ⟨i+1,by have:=HIR.out; omega,by go_num,HT2,hM1',hM2',hB'⟩
   ·
    have e:(x != y)=true:=by rw [bne_iff_ne]; exact hxy
    have HR:Hid (sameM k a q vs k' a' q' us=false):=by
     refine decide_eq_false (fun h=>hxy ?_)
     have h4:=h.2.2.2
     subst h4
     rw [← HX.out,← HY.out]
    clear hxy
    go_wp2
    go_ret
    exact ⟨congrArg (fun b=>Ending.returned (.bool b)) HR.out.symm,hB'⟩
end Go.Proofs.YtcoenncgoepadaaDoor
