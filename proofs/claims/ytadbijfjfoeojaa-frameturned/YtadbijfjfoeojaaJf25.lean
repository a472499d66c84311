/- Parts of the proof. -/
import Derived.Test.YtadbijfjfoeojaaJf0
import Derived.Test.YtadbijfjfoeojaaJf22
import Derived.Test.YtadbijfjfoeojaaJf23
import Derived.Test.YtadbijfjfoeojaaJf4
import Derived.Test.YtadbijfjfoeojaaJf21
import Derived.Deep.LoopGhost
set_option linter.unusedSimpArgs false
set_option linter.unusedVariables false
/- Package frame: the landed reader: tell. No statement of the seat is proved here. -/
namespace Go.Proofs.Ytadbijfjfoeojaa
open Go Go.RowKit
section
variable {P:Program}
/-- The first n operations may come in any order, their values known ahead but for two, one of which waits for the other; the others come behind them, in one order. -/
theorem wp_region_two {Q:Exit→Act→World→Prop} {id:Nat} {a:Act} {w:World} {l:List Oper} (n k1 k2:Nat) (ds:List (Option Tmp)) (V:Nat→Value) (S0:World→Prop) (S1 S2:Value→World→Prop) (C:World→Prop) (hm:P.follows .mixedOrders=true) (hB:tailsB5 .any l.toArray n=true) (hn:ds.length≤n) (hk1:k1 < n) (hk2:k2 < n) (hk:k1 ≠ k2) (hw:Region.waitsFor .any l.toArray k2 k1=true)
  (c0:∀ W,S0 W→C W) (c1:∀ v W,S1 v W→C W) (c2:∀ v W,S2 v W→C W) (h0:S0 w.drew)
  (make1:∀ (hi:k1 < l.length) (u:Nat→Value) (W:World),S0 W→(∀ j,j ≠ k1→j ≠ k2→Region.waitsFor .any l.toArray k1 j=true→u j=V j)→l[k1].guard=none∧∀ K':Act→World→Prop,(∀ a' W' v,a'=layS a ds (updV u k1 v) 0→S1 v W'→K' a' W')→Oper.wp P l[k1] (layS a ds u 0) W K' Q)
  (make2:∀ (hi:k2 < l.length) (u:Nat→Value) (W:World),S1 (u k1) W→(∀ j,j ≠ k1→j ≠ k2→Region.waitsFor .any l.toArray k2 j=true→u j=V j)→l[k2].guard=none∧∀ K':Act→World→Prop,(∀ a' W' v,a'=layS a ds (updV u k2 v) 0→S2 v W'→K' a' W')→Oper.wp P l[k2] (layS a ds u 0) W K' Q)
  (step:∀ i (hi:i < l.length),i < n→i ≠ k1→i ≠ k2→∀ (u:Nat→Value) (W:World),C W→(∀ j,j ≠ k1→j ≠ k2→Region.waitsFor .any l.toArray i j=true→u j=V j)→OpV P Q l[i] l.toArray a ds V (fun W'=>W'=W) i u W)
  (fin:∀ W v1 v2,S2 v2 W→wpList P l.toArray Q (l.drop n) (layS a ds (updV (updV V k1 v1) k2 v2) 0) W):(Code.region id l.toArray true).wp P Q a w:=by
 have hl:n≤l.length:=by
  have hB':=hB
  unfold tailsB5 at hB'
  simp only [Bool.and_eq_true,decide_eq_true_eq] at hB'
  simpa using hB'.1.1.1
 refine wp_region_inv5 n (fun L a' W=>∃ u:Nat→Value,(∀ j,j ≠ k1→j ≠ k2→L j=true→u j=V j)∧(L k2=true→L k1=true)∧(L k1=false→S0 W)∧(L k1=true→L k2=false→S1 (u k1) W)∧(L k2=true→S2 (u k2) W)∧a'=layS a ds u 0) hm hB ⟨fun k=>((ds.getD k none).map fun t=>a.tmps.getD t undef).getD undef,nofun,nofun,fun _=>h0,nofun,nofun,?_⟩ ?_ ?_
 ·
  refine (layS_self a ds _ 0 (fun j d hj=>?_)).symm
  have:ds.getD (0+j) none=d:=by rw [Nat.zero_add,List.getD_eq_getElem?_getD,hj]; rfl
  rw [this]
 ·
  rintro L a' W i hi ⟨u,hu,h21,s0,s1,s2,rfl⟩ hLi hwt
  have hil:i < l.length:=Nat.lt_of_lt_of_le hi hl
  by_cases e1:i=k1
  ·
   subst e1
   have hL2:L k2=false:=by cases e:L k2 with
    | false=>rfl
    | true=>rw [h21 e] at hLi; cases hLi
   refine wpOp_step (o:=l[i]) (by simp [hil]) (fun K' hK=>?_)
   obtain ⟨h1,h2⟩:=make1 hil u W (s0 hLi) (fun j hj1 hj2 hj=>hu j hj1 hj2 (hwt j hj))
   rw [if_pos (by simp [Region.wanted,h1])]
   refine h2 K' (fun a' W' v e hs=>hK _ _ ⟨updV u i v,fun j hj1 hj2 hj=>?_,fun _=>by simp [upd],fun h=>by simp [upd] at h,fun _ _=>by simpa [updV] using hs,fun h=>?_,e⟩)
   ·
    unfold updV
    rw [if_neg hj1]
    exact hu j hj1 hj2 (by rw [upd_ne hj1] at hj; exact hj)
   ·
    rw [upd_ne (fun q=>hk q.symm),hL2] at h
    cases h
  ·
   by_cases e2:i=k2
   ·
    subst e2
    have hL1:L k1=true:=hwt k1 hw
    refine wpOp_step (o:=l[i]) (by simp [hil]) (fun K' hK=>?_)
    obtain ⟨h1,h2⟩:=make2 hil u W (s1 hL1 hLi) (fun j hj1 hj2 hj=>hu j hj1 hj2 (hwt j hj))
    rw [if_pos (by simp [Region.wanted,h1])]
    refine h2 K' (fun a' W' v e hs=>hK _ _ ⟨updV u i v,fun j hj1 hj2 hj=>?_,fun _=>?_,fun h=>?_,fun _ h=>by simp [upd] at h,fun _=>by simpa [updV] using hs,e⟩)
    ·
     unfold updV
     rw [if_neg hj2]
     exact hu j hj1 hj2 (by rw [upd_ne hj2] at hj; exact hj)
    ·
     rw [upd_ne hk]; exact hL1
    ·
     rw [upd_ne hk,hL1] at h
     cases h
   ·
    have hC:C W:=by
     cases h1:L k1 with
     | false=>exact c0 _ (s0 h1)
     | true =>
      cases h2:L k2 with
      | false=>exact c1 _ _ (s1 h1 h2)
      | true=>exact c2 _ _ (s2 h2)
    refine wpOp_mono ?_ (opV_step (J:=fun W'=>W'=W) hil rfl (step i hil hi e1 e2 u W hC (fun j hj1 hj2 hj=>hu j hj1 hj2 (hwt j hj))))
    rintro a' W' ⟨rfl,rfl⟩
    have n1:∀ v,updV u i v k1=u k1:=fun v=>by unfold updV; rw [if_neg (fun q=>e1 q.symm)]
    have n2:∀ v,updV u i v k2=u k2:=fun v=>by unfold updV; rw [if_neg (fun q=>e2 q.symm)]
    have l1:upd L i k1=L k1:=upd_ne (fun q=>e1 q.symm)
    have l2:upd L i k2=L k2:=upd_ne (fun q=>e2 q.symm)
    refine ⟨updV u i (V i),fun j hj1 hj2 hj=>?_,by rw [l1,l2]; exact h21,by rw [l1]; exact s0,by rw [l1,l2,n1]; exact s1,by rw [l2,n2]; exact s2,rfl⟩
    unfold updV
    by_cases h:j=i
    ·
     rw [if_pos h,h]
    ·
     rw [if_neg h]
     exact hu j hj1 hj2 (by rw [upd_ne h] at hj; exact hj)
 ·
  rintro a' W ⟨L,hL,u,hu,h21,s0,s1,s2,rfl⟩
  have e:layS a ds u 0=layS a ds (updV (updV V k1 (u k1)) k2 (u k2)) 0:=layS_congr ds a u _ 0 (fun j hj=>by
   rw [Nat.zero_add]
   unfold updV
   by_cases h2:j=k2
   ·
    rw [if_pos h2,h2]
   ·
    rw [if_neg h2]
    by_cases h1:j=k1
    ·
     rw [if_pos h1,h1]
    ·
     rw [if_neg h1]
     exact hu j h1 h2 (hL j (by omega)))
  rw [e]
  exact fin W _ _ (s2 (hL k2 hk2))
/-- An append to an own slice, where the new one lies. -/
theorem wp_append_at {Q:Exit→Act→World→Prop} {o:Oper} {a:Act} {W:World} {K:Act→World→Prop} (s x:Operand) (t:TypeId) (ho:o.op=.call { callee:=.builtin .append,args:=#[s,x],argTypes:=#[t,t] })
  (base:Nat) (e:TypeId) (i:TypeInfo) (z:Value) (size bytes:Nat) (ht:P.underlying t=some (.slice e)) (hi:P.info? e=some i) (hz:i.zero=some z)
  (hsize:i.size=size) (hby:i.bytes=bytes) (hzs:z.cells.size=size) (hsz:0 < size)
  (v:Value) (n:Nat) (xs:List Value) (hs:a.eval s=v) (hown:W.ownsRow base e size v n xs)
  (ad:Addr) (m c:Nat) (news:List Value) (hx:a.eval x=.slice (some ad) m c) (hl:news.length=m*size) (hnews:∀ j u,news[j]?=some u→W.cell? (ad.add j)=some u) (h1:∀ u ∈ news,u.oneCell'=true)
  (h63:n+m≤maxLen) (hbytes:(n+m)*bytes≤140737488355328) (hbase:base≤W.heap.size)
  (h:∀ v' w',w'.ownsRow base e size v' (n+m) (xs++news)→W.grownBy w' v.ownBlock→(v'=.slice none 0 0↔v=.slice none 0 0∧m=0)→(v'.ownBlock=v.ownBlock∨v'.ownBlock=some W.heap.size)→K (a.put o.dst v') w'):Oper.wp P o a W K Q:=by
 obtain ⟨v',w',hr,h2,h3,h4,h5⟩:=run_append_own_at (P:=P) W base t o.type e i z size bytes ht hi hz hsize hby hzs hsz v n xs hown ad m c news hl hnews h1 h63 hbytes hbase
 unfold Oper.wp execOp
 simp only [ho,resolve,invoke,builtin,Sem.run_bind,Sem.run_pure,Result.andThen_ok,List.map_toArray,List.map_cons,List.map_nil,hs,hx,hr]
 exact h v' w' h2 h3 h4 h5
end
theorem es_one {w W:World} {b:Nat} {C:Array Value} {T:TypeId} (h:Below w.heap.size w W) (hc:Cl W (b,C,T)) (hb:w.heap.size≤b):Es w W [(b,C,T)] :=
 ⟨h,fun p hp=>by rw [List.mem_singleton] at hp; subst hp; exact hc,by simp,fun p hp=>by rw [List.mem_singleton] at hp; subst hp; exact hb⟩
/-- The reader before what is told stands in it. -/
structure RdT (w W:World) (r:Nat) (s:ByteArray) (vc v:Value) (fs:Fs) (b:Nat):Prop where
 es:Es w W [(r,#[.string s,vc,.int .i64 (b:Nat)],49)]
 row:W.ownsRow w.heap.size 39 2 v fs.length (fcells fs)
 off:v.ownBlock ≠ some r
set_option maxHeartbeats 1600000 in
theorem fclone_any (s:ByteArray) (W:World) (hs:s.size≤281474976710656):Calls Try.prog 21 #[.string s] W (PVal (.string s) W):=by
 go_enter Try.func21,Try.ntmps21
 go_wp2_with fail
 refine (Try.stringslite_Clone s _ hs).mono ?_
 rintro e W1 ⟨rfl,hB⟩
 go_wp2
 go_ret
 exact ⟨rfl,hB⟩
attribute [local go_sem ↓] run_bf run_bsf
set_option maxRecDepth 100000 in
set_option maxHeartbeats 6400000 in
theorem ftell_w {w W:World} {r b:Nat} {s:ByteArray} {v:Value} {fs:Fs} (h:Rd w W r s v fs b) (n m:Nat) (q:ByteArray) (h3:3 < s.size) (hn:s[3].toNat=n) (hm:6+n=m) (hle:m≤s.size) (hq:s.extract 4 (m - 2)=q) (hsz:s.size≤281474976710656) (hf:fs.length≤1000000) :
  Calls Try.prog 30 #[.pointer (some ⟨r,0,none⟩)] W fun e W'=>∃ v',e=.returned (bnd 20 r)∧Rd w W' r (s.extract m s.size) v' (fs++[(s[2],q.data.toList)]) b:=by
 obtain ⟨i0,hi0,hz0,hzz1,hzz2⟩:=info_parts Try.finfo39
 have hmf:∀ (fn:Fn) (first cap:Array Value) (w:World),(Instr.makeFunc fn first cap).run Try.prog w=.ok (.func fn first cap) w:=fun _ _ _ _=>rfl
 have hqs:q.size≤281474976710656:=by rw [← hq,ByteArray.size_extract]; omega
 have H:=Lib.hid h
 have HQ:=Lib.hid hq
 have HN:=Lib.hid hn
 clear h hn hq
 go_enter Try.func30,Try.ntmps30
 go_wp2_with fail
 refine (fsize_any W n m H.out.c0 h3 HN.out hm).mono ?_
 rintro e W0 ⟨rfl,hB⟩
 replace H:=Lib.hid (H.out.later hB)
 clear hB
 have hc:=H.out.c0
 have hz:((m:Int) - 2).toNat=m - 2:=by omega
 have hle4:4≤m - 2∧m - 2≤s.size:=by omega
 have hq:=HQ.out
 go_wp2_with fail
 refine (fclone_any q _ hqs).mono ?_
 rintro e W1 ⟨rfl,hB⟩
 replace H:=Lib.hid (H.out.later hB)
 clear hB hc hz hle4 hq
 go_wp2
 refine wp_region_two 16 12 13 [some 15,some 16,some 17,some 18,some 19,some 20,some 21,some 22,some 23,some 24,some 25,some 26,some 27,some 28,some 29,some 30] (lstV [.pointer (some ⟨r,0,none⟩),.pointer (some ⟨r,0,none⟩),.pointer (some ⟨r,0,none⟩),.pointer (some ⟨r,1,none⟩),v,.pointer (some ⟨r,0,none⟩),.pointer (some ⟨r,0,none⟩),.pointer (some ⟨r,0,none⟩),.string s,.int .u8 (s[2].toNat:Nat),.string q,.agg #[.int .u8 (s[2].toNat:Nat),.string q],undef,undef,.pointer (some ⟨r,0,none⟩),.pointer (some ⟨r,1,none⟩)]) (fun W=>Rd w W r s v fs b) (fun v1 W=>Rd w W r s v fs b∧Afr w.heap.size (.int .u8 (s[2].toNat:Nat)) (.string q) 39 v1 W) (fun v2 W=>RdT w W r s v v2 (fs++[(s[2],q.data.toList)]) b) (fun W=>Es w W [(r,#[.string s,v,.int .i64 (b:Nat)],49)]) (by kernel_rfl) (by kernel_rfl) (by decide) (by decide) (by decide) (by decide) (by kernel_rfl) (fun W h=>h.es) (fun v W h=>h.1.es) (fun v W h=>h.es) (H.out.later (Below.refl _ _).drew) ?_ ?_ ?_ ?_
 ·
  intro hl u W hJ hd
  have e11:u 11=.agg #[.int .u8 (s[2].toNat:Nat),.string q]:=hd 11 (by decide) (by decide) (by kernel_rfl)
  clear hd
  simp only [zzA,zzB]
  clear hl
  refine ⟨trivial,fun K' hK=>?_⟩
  have HK:=Lib.hid hK
  clear hK
  simp only [layS,Act.put,zzC,zzD,zzE,Nat.zero_add,Nat.reduceAdd,e11]
  have E11:=Lib.hid e11
  clear e11
  go_simp
  exact HK.out _ _ (.slice (some ⟨W.heap.size,0,none⟩) 1 1) (by simp [layS,updV,lstV,Act.put,E11.out]) ⟨hJ.later (new_below W _),afr_new hJ.es.below.size⟩
 ·
  intro hl u W hJ hd
  have e4:u 4=v:=hd 4 (by decide) (by decide) (by kernel_rfl)
  obtain ⟨hR,bq,e12,hbq,hcq⟩:=hJ
  clear hd
  simp only [zzA,zzB]
  clear hl
  refine ⟨trivial,fun K' hK=>?_⟩
  have HK:=Lib.hid hK
  clear hK
  simp only [layS,Act.put,zzC,zzD,zzE,Nat.zero_add,Nat.reduceAdd,e4,e12]
  have E4:=Lib.hid e4
  have E12:=Lib.hid e12
  clear e4 e12
  refine wp_append_at (.tmp 19) (.tmp 27) 30 rfl w.heap.size 39 i0 _ 2 24 uf30 hi0 hz0 hzz1 hzz2 rfl (by decide) v fs.length (fcells fs) rfl hR.row ⟨bq,0,none⟩ 1 1 [.int .u8 (s[2].toNat:Nat),.string q] rfl rfl (afr_cell hcq) (by simp [Value.oneCell']) (by simp only [maxLen]; omega) (by omega) hR.es.below.size ?_
  intro v2 W2 h1 h2 h3 h4
  refine HK.out _ _ v2 (by simp [layS,updV,lstV,Act.put,E4.out,E12.out]) ⟨?_,?_,?_⟩
  ·
   refine es_one (hR.es.below.grown h2 hR.es.below.size fun k e=>(hR.row.lt k e).1) ?_ (hR.es.ge _ (List.mem_cons_self ..))
   exact (h2.block r (hR.es.lt _ (List.mem_cons_self ..)) (fun e=>hR.off e.symm)).trans (hR.es.at' _ (List.mem_cons_self ..))
  ·
   rw [List.length_append,← fcells_snoc]
   exact h1
  ·
   intro e
   rcases h4 with h4 | h4
   ·
    exact hR.off (h4.symm.trans e)
   ·
    rw [h4] at e
    injection e with e
    have:=hR.es.lt _ (List.mem_cons_self ..)
    simp only at this
    omega
 ·
  intro i hl hi hne1 hne2 u W hJ hd
  obtain rfl | rfl | rfl | rfl | rfl | rfl | rfl | rfl | rfl | rfl | rfl | rfl | rfl | rfl:i=0∨i=1∨i=2∨i=3∨i=4∨i=5∨i=6∨i=7∨i=8∨i=9∨i=10∨i=11∨i=14∨i=15:=by omega
  ·
   clear hd
   simp only [zzA,zzB]
   clear hl hne1 hne2
   refine .inr ⟨rfl,fun K' hK=>?_⟩
   have HK:=Lib.hid hK
   clear hK
   simp only [layS,Act.put,zzC,zzD,zzE,Nat.zero_add,Nat.reduceAdd]
   go_simp
   exact HK.out _ _ (by simp [layS,updV,lstV,Act.put]) rfl
  ·
   clear hd
   simp only [zzA,zzB]
   clear hl hne1 hne2
   refine .inr ⟨rfl,fun K' hK=>?_⟩
   have HK:=Lib.hid hK
   clear hK
   simp only [layS,Act.put,zzC,zzD,zzE,Nat.zero_add,Nat.reduceAdd]
   go_simp
   exact HK.out _ _ (by simp [layS,updV,lstV,Act.put]) rfl
  ·
   have e1:u 1=.pointer (some ⟨r,0,none⟩):=hd 1 (by decide) (by decide) (by kernel_rfl)
   clear hd
   simp only [zzA,zzB]
   clear hl hne1 hne2
   refine .inr ⟨rfl,fun K' hK=>?_⟩
   have HK:=Lib.hid hK
   clear hK
   simp only [layS,Act.put,zzC,zzD,zzE,Nat.zero_add,Nat.reduceAdd,e1]
   have E1:=Lib.hid e1
   clear e1
   go_simp
   exact HK.out _ _ (by simp [layS,updV,lstV,Act.put,E1.out]) rfl
  ·
   have e2:u 2=.pointer (some ⟨r,0,none⟩):=hd 2 (by decide) (by decide) (by kernel_rfl)
   clear hd
   simp only [zzA,zzB]
   clear hl hne1 hne2
   refine .inr ⟨rfl,fun K' hK=>?_⟩
   have HK:=Lib.hid hK
   clear hK
   simp only [layS,Act.put,zzC,zzD,zzE,Nat.zero_add,Nat.reduceAdd,e2]
   have E2:=Lib.hid e2
   clear e2
   go_simp
   exact HK.out _ _ (by simp [layS,updV,lstV,Act.put,E2.out]) rfl
  ·
   have e3:u 3=.pointer (some ⟨r,1,none⟩):=hd 3 (by decide) (by decide) (by kernel_rfl)
   clear hd
   simp only [zzA,zzB]
   clear hl hne1 hne2
   refine .inr ⟨rfl,fun K' hK=>?_⟩
   have HK:=Lib.hid hK
   clear hK
   simp only [layS,Act.put,zzC,zzD,zzE,Nat.zero_add,Nat.reduceAdd,e3]
   have E3:=Lib.hid e3
   clear e3
   have hc0:=hJ.cell 0 rfl 0 rfl
   have hc1:=hJ.cell 0 rfl 1 rfl
   go_simp
   exact HK.out _ _ (by simp [layS,updV,lstV,Act.put,E3.out]) rfl
  ·
   clear hd
   simp only [zzA,zzB]
   clear hl hne1 hne2
   refine .inr ⟨rfl,fun K' hK=>?_⟩
   have HK:=Lib.hid hK
   clear hK
   simp only [layS,Act.put,zzC,zzD,zzE,Nat.zero_add,Nat.reduceAdd]
   go_simp
   exact HK.out _ _ (by simp [layS,updV,lstV,Act.put]) rfl
  ·
   have e5:u 5=.pointer (some ⟨r,0,none⟩):=hd 5 (by decide) (by decide) (by kernel_rfl)
   clear hd
   simp only [zzA,zzB]
   clear hl hne1 hne2
   refine .inr ⟨rfl,fun K' hK=>?_⟩
   have HK:=Lib.hid hK
   clear hK
   simp only [layS,Act.put,zzC,zzD,zzE,Nat.zero_add,Nat.reduceAdd,e5]
   have E5:=Lib.hid e5
   clear e5
   go_simp
   exact HK.out _ _ (by simp [layS,updV,lstV,Act.put,E5.out]) rfl
  ·
   have e6:u 6=.pointer (some ⟨r,0,none⟩):=hd 6 (by decide) (by decide) (by kernel_rfl)
   clear hd
   simp only [zzA,zzB]
   clear hl hne1 hne2
   refine .inr ⟨rfl,fun K' hK=>?_⟩
   have HK:=Lib.hid hK
   clear hK
   simp only [layS,Act.put,zzC,zzD,zzE,Nat.zero_add,Nat.reduceAdd,e6]
   have E6:=Lib.hid e6
   clear e6
   go_simp
   exact HK.out _ _ (by simp [layS,updV,lstV,Act.put,E6.out]) rfl
  ·
   have e7:u 7=.pointer (some ⟨r,0,none⟩):=hd 7 (by decide) (by decide) (by kernel_rfl)
   clear hd
   simp only [zzA,zzB]
   clear hl hne1 hne2
   refine .inr ⟨rfl,fun K' hK=>?_⟩
   have HK:=Lib.hid hK
   clear hK
   simp only [layS,Act.put,zzC,zzD,zzE,Nat.zero_add,Nat.reduceAdd,e7]
   have E7:=Lib.hid e7
   clear e7
   have hc0:=hJ.cell 0 rfl 0 rfl
   have hc1:=hJ.cell 0 rfl 1 rfl
   go_simp
   exact HK.out _ _ (by simp [layS,updV,lstV,Act.put,E7.out]) rfl
  ·
   have e8:u 8=.string s:=hd 8 (by decide) (by decide) (by kernel_rfl)
   clear hd
   simp only [zzA,zzB]
   clear hl hne1 hne2
   refine .inr ⟨rfl,fun K' hK=>?_⟩
   have HK:=Lib.hid hK
   clear hK
   simp only [layS,Act.put,zzC,zzD,zzE,Nat.zero_add,Nat.reduceAdd,e8]
   have E8:=Lib.hid e8
   clear e8
   have h2s:2 < s.size:=by omega
   go_simp
   rw [dif_pos (show (2:Int) < (s.size:Int) by omega)]
   go_simp
   exact HK.out _ _ (by simp [layS,updV,lstV,Act.put,E8.out]) rfl
  ·
   clear hd
   simp only [zzA,zzB]
   clear hl hne1 hne2
   refine .inr ⟨rfl,fun K' hK=>?_⟩
   have HK:=Lib.hid hK
   clear hK
   simp only [layS,Act.put,zzC,zzD,zzE,Nat.zero_add,Nat.reduceAdd]
   go_simp
   exact HK.out _ _ (by simp [layS,updV,lstV,Act.put]) rfl
  ·
   have e9:u 9=.int .u8 (s[2].toNat:Nat):=hd 9 (by decide) (by decide) (by kernel_rfl)
   have e10:u 10=.string q:=hd 10 (by decide) (by decide) (by kernel_rfl)
   clear hd
   simp only [zzA,zzB]
   clear hl hne1 hne2
   refine .inr ⟨rfl,fun K' hK=>?_⟩
   have HK:=Lib.hid hK
   clear hK
   simp only [layS,Act.put,zzC,zzD,zzE,Nat.zero_add,Nat.reduceAdd,e9,e10]
   have E9:=Lib.hid e9
   have E10:=Lib.hid e10
   clear e9 e10
   go_simp
   exact HK.out _ _ (by simp [layS,updV,lstV,Act.put,E9.out,E10.out]) rfl
  ·
   have e0:u 0=.pointer (some ⟨r,0,none⟩):=hd 0 (by decide) (by decide) (by kernel_rfl)
   clear hd
   simp only [zzA,zzB]
   clear hl hne1 hne2
   refine .inr ⟨rfl,fun K' hK=>?_⟩
   have HK:=Lib.hid hK
   clear hK
   simp only [layS,Act.put,zzC,zzD,zzE,Nat.zero_add,Nat.reduceAdd,e0]
   have E0:=Lib.hid e0
   clear e0
   go_simp
   exact HK.out _ _ (by simp [layS,updV,lstV,Act.put,E0.out]) rfl
  ·
   have e14:u 14=.pointer (some ⟨r,0,none⟩):=hd 14 (by decide) (by decide) (by kernel_rfl)
   clear hd
   simp only [zzA,zzB]
   clear hl hne1 hne2
   refine .inr ⟨rfl,fun K' hK=>?_⟩
   have HK:=Lib.hid hK
   clear hK
   simp only [layS,Act.put,zzC,zzD,zzE,Nat.zero_add,Nat.reduceAdd,e14]
   have E14:=Lib.hid e14
   clear e14
   go_simp
   exact HK.out _ _ (by simp [layS,updV,lstV,Act.put,E14.out]) rfl
 intro W v1 v2 hT
 obtain ⟨hEs,hrow,hoff⟩:=hT
 obtain ⟨g,cap,ev⟩:∃ g cap,v2=.slice (some ⟨g,0,none⟩) (fs++[(s[2],q.data.toList)]).length cap:=by
  rcases hrow.2 with ⟨_,h0⟩ | ⟨g,cap,cur,h0,_⟩
  ·
   rw [List.length_append] at h0
   simp at h0
  ·
   exact ⟨g,cap,h0⟩
 have HE:=Lib.hid hEs
 have HO:=Lib.hid hrow
 have HF:=Lib.hid hoff
 clear hEs hrow hoff H
 simp only [layS,updV,lstV,if_true,if_false,reduceIte,Nat.reduceEqDiff,Act.put,zzC,zzD,zzE,Nat.zero_add,Nat.reduceAdd,List.getD_cons_zero,List.getD_cons_succ,List.drop_succ_cons,List.drop_zero,List.drop_nil]
 go_wp2_with (refine zso rfl (fun K hK=>wp_store 30 (.tmp 30) (.tmp 28) rfl 0 r 1 _ _ 1 [v2] HE.out rfl rfl (by subst ev; rfl) szI30 rfl (show 1+1≤3 by decide) (by subst ev; rfl) (fun W1 h1 hk hz=>hK _ _ ?_)))
 simp only [Stop,Act.put,zzC,zzD,zzE]
 have h2:Rd w W1 r s v2 (fs++[(s[2],q.data.toList)]) b:=⟨by exact h1,owns_same HO.out fun g hg=>hk g fun e=>HF.out (e ▸ hg),HF.out⟩
 clear h1 hk hz HE HO HF ev
 have H:=Lib.hid h2
 have hc:=h2.c0
 clear h2
 obtain ⟨t,ht⟩:∃ t,s.extract m s.size=t:=⟨_,rfl⟩
 have HT:=Lib.hid ht
 clear ht
 go_wp2_with (refine zso rfl (fun K hK=>wp_store 9 (.tmp 39) (.tmp 37) rfl 0 r 0 _ _ 1 [.string t] H.out.es rfl rfl (by rw [← HT.out]; rfl) szI9 rfl (show 0+1≤3 by decide) rfl (fun W1 h1 hk hz=>hK _ _ ?_)))
 simp only [Stop,Act.put,zzC,zzD,zzE]
 have h2:=Lib.hid (show Rd w W1 r t v2 (fs++[(s[2],q.data.toList)]) b from H.out.put (by exact h1) hk)
 clear h1 hk hz hc H
 go_wp2
 go_ret
 exact ⟨v2,rfl,by rw [HT.out]; exact h2.out⟩
/-- The world without its memory: over it every block may be written. -/
def bare (w:World):World:={ w with heap:=#[] }
theorem es_bare {w W:World} {b:Nat} {C:Array Value} {T:TypeId} (h:Below w.heap.size w W) (hc:Cl W (b,C,T)):Es (bare w) W [(b,C,T)] :=
  es_one ⟨h.os,h.tape,h.output,Nat.zero_le _,fun k hk=>absurd hk (Nat.not_lt_zero _)⟩ hc (Nat.zero_le _)
/-- Behind the loop: the scan in block a, the reader in block r. -/
structure Fe (w W:World) (a r:Nat) (s:ByteArray) (z:Int) (v:Value) (fs:Fs) (b:Nat):Prop where
  es:Es (bare w) W [(a,#[.string s,.int .i64 z],47)]
  rd:Cl W (r,#[.string s,v,.int .i64 (b:Nat)],49)
  row:W.ownsRow w.heap.size 39 2 v fs.length (fcells fs)
  size:w.heap.size≤W.heap.size
  blk:∀ k,k ≠ a→k < w.heap.size→W.heap[k]?=w.heap[k]?
  lt:a < w.heap.size
  ge:w.heap.size≤r
theorem cl_lt {W:World} {b:Nat} {C:Array Value} {T:TypeId} (h:Cl W (b,C,T)):b < W.heap.size:=(Array.getElem?_eq_some_iff.1 h).1
section
variable {w W W':World} {a r b:Nat} {s:ByteArray} {z:Int} {v:Value} {fs:Fs}
theorem Fe.later (h:Fe w W a r s z v fs b) (hb:Below W.heap.size W W'):Fe w W' a r s z v fs b :=
  ⟨h.es.later hb,h.rd.below hb,owns_below h.row hb,Nat.le_trans h.size hb.size,fun k hk hk2=>(hb.block k (Nat.lt_of_lt_of_le hk2 h.size)).trans (h.blk k hk hk2),h.lt,h.ge⟩
theorem Fe.put {z':Int} (h:Fe w W a r s z v fs b) (he:Es (bare w) W' [(a,#[.string s,.int .i64 z'],47)]) (hk:∀ k,k ≠ a→W'.heap[k]?=W.heap[k]?) (hz:W'.heap.size=W.heap.size):Fe w W' a r s z' v fs b :=
  ⟨he,(hk r (fun e=>by have:=h.lt; have:=h.ge; omega)).trans h.rd,owns_same h.row fun g hg=>hk g fun e=>by have:=(h.row.lt g hg).1; have:=h.lt; omega,by rw [hz]; exact h.size,fun k h1 h2=>(hk k h1).trans (h.blk k h1 h2),h.lt,h.ge⟩
theorem Fe.c2 (h:Fe w W a r s z v fs b):W.cell? ⟨r,2,none⟩=some (.int .i64 (b:Nat)):=by
  have h':W.heap[r]?=some (.cells #[.string s,v,.int .i64 (b:Nat)] 49 (0,0)):=h.rd
  simp [World.cell?,h']
theorem Fe.c1 (h:Fe w W a r s z v fs b):W.cell? ⟨r,1,none⟩=some v:=by
  have h':W.heap[r]?=some (.cells #[.string s,v,.int .i64 (b:Nat)] 49 (0,0)):=h.rd
  simp [World.cell?,h']
theorem Fe.chg (h:Fe w W a r s z v fs b):Chg (fun k=>k=a) w W:=⟨h.es.below.os,h.es.below.tape,h.es.below.output,h.size,fun k h1 h2=>h.blk k h2 h1⟩
theorem fr_own (h:Fe w W a r s z v fs b):∃ c,FrAt W v fs c∧(fs ≠ []→w.heap.size≤c):=by
  by_cases h0:fs=[]
  · subst h0
    refine ⟨0,.inl ⟨rfl,?_⟩,fun h=>absurd rfl h⟩
    rcases h.row.2 with ⟨e,_⟩ | ⟨g,cap,cur,e,_⟩
    · exact ⟨none,0,e,fun _=>rfl⟩
    · exact ⟨_,_,e,nofun⟩
  · have hl:0 < fs.length:=List.length_pos_iff.2 h0
    rcases h.row.2 with ⟨_,e⟩ | ⟨g,cap,cur,e,hg,hcur,_⟩
    · omega
    · have hcell:=h.row.cells (g:=g) (by rw [e]; rfl)
      have ea:∀ k,(⟨g,0,none⟩:Addr).add k=⟨g,0+k,none⟩:=fun k=>by unfold Addr.add; split <;> simp_all
      refine ⟨g,.inr ⟨h0,0,cap,e,(Array.getElem?_eq_some_iff.1 hcur).1,fun i hi=>?_⟩,fun _=>hg⟩
      obtain ⟨c1,c2⟩:=fcells_get fs i hi
      have d1:=hcell _ _ c1
      have d2:=hcell _ _ c2
      rw [ea] at d1 d2
      exact ⟨d1,by rw [show 0+i*2+1=0+(i*2+1) by omega]; exact d2⟩
end
/-- What was told so far, and what is left to be read. -/
def Far (L:W.Rs) (fs:Fs) (b:Nat) (s:ByteArray):Prop:=(fs++(rn_ s.data.toList).1,b+(rn_ s.data.toList).2.1,(rn_ s.data.toList).2.2)=L
section
variable {L:W.Rs} {fs:Fs} {b:Nat} {s t:ByteArray}
theorem Far.skip (h:Far L fs b s) (hs:W.stp X.rightB s.data.toList=some (.drop,tl s 1)) (ht:rn_ t.data.toList=rn_ (tl s 1)):Far L fs b t:=by
  unfold Far at *
  rw [ht,← h,rn_,rn_,W.run_some hs]
  rfl
theorem Far.wrong (h:Far L fs b s) (hs:W.stp X.rightB s.data.toList=some (.bad,tl s 2)):Far L fs (b+1) (s.extract 2 s.size):=by
  unfold Far at *
  rw [ext_tl,← h]
  simp only [rn_,W.run_some hs,W.Ev.on]
  rw [show b+1+(W.run X.rightB (tl s 2)).2.1=b+((W.run X.rightB (tl s 2)).2.1+1) by omega]
theorem Far.told {k:UInt8} {p:List UInt8} {m:Nat} (h:Far L fs b s) (hs:W.stp X.rightB s.data.toList=some (.told k p,tl s m)):Far L (fs++[(k,p)]) b (s.extract m s.size):=by
  unfold Far at *
  rw [ext_tl,← h]
  simp only [rn_,W.run_some hs,W.Ev.on]
  rw [List.append_assoc]
  rfl
theorem Far.stop (h:Far L fs b s) (hs:W.stp X.rightB s.data.toList=none):L=(fs,b,s.data.toList):=by
  unfold Far at h
  rw [← h]
  simp only [rn_,W.run_none hs]
  rw [List.append_nil,Nat.add_zero]
theorem Far.bound {X:ByteArray} (h:Far (rn_ X.data.toList) fs b s):fs.length+b≤X.size:=by
  unfold Far at h
  have h1:=rn_count X.data.toList
  rw [← h] at h1
  simp only [List.length_append,Array.length_toList] at h1
  have e:X.data.size=X.size:=rfl
  omega
end
theorem run_b49 (x:ByteArray) (W:World):(Instr.build 49 #[(0,.string x)]).run Try.prog W=.ok (.agg #[.string x,.slice none 0 0,.int .i64 0]) W:=by kernel_rfl
theorem zv49 (W:World):(zeroValue 49).run Try.prog W=.ok (.agg #[.string ⟨#[]⟩,.slice none 0 0,.int .i64 0]) W:=by kernel_rfl
theorem szI49 (W:World):(sizeOf 49).run Try.prog W=.ok 3 W:=by kernel_rfl
theorem run_nn (W:World):(binOp BinOp.neq 51 .nilFunc .nilFunc).run Try.prog W=.ok (.bool false) W:=by kernel_rfl
theorem run_nb (k:FuncId) (r:Nat) (W:World):(binOp BinOp.neq 51 (.func (.func k) #[.pointer (some ⟨r,0,none⟩)] #[]) .nilFunc).run Try.prog W=.ok (.bool true) W:=by kernel_rfl
attribute [local go_sem ↓] run_b49 run_nn run_nb
set_option maxRecDepth 100000 in
set_option maxHeartbeats 6400000 in
theorem ffeed_w (w:World) (a:Nat) (B s X:ByteArray) (z:Int) (hc:Cl w (a,#[.string B,.int .i64 z],47)) (hX:B++s=X) (hs:X.size≤1000000) :
    Calls Try.prog 13 #[.pointer (some ⟨a,0,none⟩),.string s] w fun e W'=>∃ (v:Value) (r bb:Nat) (fs:Fs) (s2:ByteArray),e=.returned v∧rn_ X.data.toList=(fs,bb,s2.data.toList)∧Fe w W' a r s2 (wrap64 (z+(bb:Nat))) v fs bb:=by
  have hlt:=cl_lt hc
  have hXs : ¬ 9223372036854775807 < B.size + s.size := by have : X.size = B.size + s.size := by rw [← hX, ByteArray.size_append]
                                                           omega
  have hc0:=(scn_cell hc).1
  have HC:=Lib.hid hc
  have hJ0:=es_nil w
  clear hc
  go_enter Try.func13,Try.ntmps13
  go_wp2_with (refine stop_alloc 49 #[.string ⟨#[]⟩,.slice none 0 0,.int .i64 0] (.agg #[.string ⟨#[]⟩,.slice none 0 0,.int .i64 0]) rfl rfl zv49 rfl hJ0 (fun r W1 hJ1=>?_))
  clear hJ0 hc0
  simp only [Stop,Act.put,zzC,zzD,zzE]
  go_wp2_with (refine stop_store 49 (.tmp 5) (.tmp 15) 0 r 0 #[.string ⟨#[]⟩,.slice none 0 0,.int .i64 0] 49 3 [.string X,.slice none 0 0,.int .i64 0] #[.string X,.slice none 0 0,.int .i64 0] [(r,#[.string X,.slice none 0 0,.int .i64 0],49)] rfl rfl rfl rfl szI49 hJ1 rfl rfl (show 0+3≤3 by decide) rfl rfl rfl (fun W2 hJ2=>?_))
  clear hJ1
  simp only [Stop,Act.put,zzC,zzD,zzE]
  have h0:Rd w W2 r X (.slice none 0 0) [] 0:=⟨hJ2,World.ownsRow_nil _ _ _ _,nofun⟩
  have hf0:Far (rn_ X.data.toList) [] 0 X:=by unfold Far; simp
  clear hJ2
  have H:=Lib.hid h0
  have HF:=Lib.hid hf0
  clear h0 hf0 hX hXs
  go_wp2_with fail
  refine (look_any H.out.c0 (by omega)).mono ?_
  rintro e W3 ⟨f,rfl,hdue,hB⟩
  replace H:=Lib.hid (H.out.later hB)
  have HD:=Lib.hid hdue
  clear hB hdue
  go_wp2
  go_loopg [6] (2*X.size+1) (fun n fv wx=>∃ (s2:ByteArray) (v:Value) (fs:Fs) (bb:Nat),Hid (Rd w wx r s2 v fs bb)∧Hid (Far (rn_ X.data.toList) fs bb s2)∧s2.size≤X.size∧((Hid (Due r s2 fv)∧2*s2.size+1≤n)∨(fv=bnd 20 r∧2*s2.size+2≤n)))
  case atStart=>exact ⟨X,_,[],0,H,HF,Nat.le_refl _,.inl ⟨HD,Nat.le_refl _⟩⟩
  case round =>
    clear H HF HD
    obtain ⟨s2,v,fs,bb,H,HF,hsz,hd⟩:=hrel
    have hbd:=HF.out.bound
    rcases hd with ⟨HD,hn⟩ | ⟨rfl,hn⟩
    · rcases HD.out with ⟨rfl,hst⟩ | ⟨rfl,h1,hst⟩ | ⟨rfl,h1,hst⟩ | ⟨rfl,n,h3,hn3,hn64,hn6,hst⟩
      · have HL:=Lib.hid (HF.out.stop hst)
        clear HF HD hst
        have hcs:=H.out.c0
        go_wp2_with fail
        refine (fclone_any s2 _ (by omega)).mono ?_
        rintro e W4 ⟨rfl,hB⟩
        have h4:=H.out.later hB
        have hca:Cl W4 (a,#[.string B,.int .i64 z],47):=(h4.es.below.block a hlt).trans HC.out
        have hEa:=Lib.hid (es_bare h4.es.below hca)
        have H4:=Lib.hid h4
        clear H hB hca h4 hcs
        go_wp2_with (refine zso rfl (fun K hK=>wp_store 9 (.tmp 26) (.tmp 24) rfl 0 a 0 _ _ 1 [.string s2] hEa.out rfl rfl rfl szI9 rfl (show 0+1≤2 by decide) rfl (fun W5 h5 hk hz=>hK _ _ ?_)))
        simp only [Stop,Act.put,zzC,zzD,zzE]
        have hra:r ≠ a:=fun e=>by have:=H4.out.es.ge _ (List.mem_cons_self ..); simp only at this; omega
        have h6:Fe w W5 a r s2 z v fs bb:=⟨by exact h5,(hk r hra).trans (H4.out.es.at' _ (List.mem_cons_self ..)),owns_same H4.out.row (fun g hg=>hk g fun e=>by have:=(H4.out.row.lt g hg).1; omega),by rw [hz]; exact H4.out.es.below.size,fun k h1 h2=>(hk k h1).trans (H4.out.es.below.block k h2),hlt,H4.out.es.ge _ (List.mem_cons_self ..)⟩
        have H:=Lib.hid h6
        clear h6 h5 hk hz hEa H4 hra
        go_wp2
        refine wp_region_vals 9 [some 27,some 28,some 29,some 30,some 31,some 32,some 33,some 34,some 35] (lstV [.pointer (some ⟨a,0,none⟩),.pointer (some ⟨a,0,none⟩),.pointer (some ⟨a,1,none⟩),.int .i64 z,.pointer (some ⟨r,2,none⟩),.int .i64 (bb:Nat),.int .i64 (wrap64 (z+(bb:Nat))),.pointer (some ⟨a,0,none⟩),.pointer (some ⟨a,1,none⟩)]) (fun W=>Fe w W a r s2 z v fs bb) (by kernel_rfl) (by kernel_rfl) (by decide) (H.out.later (Below.refl _ _).drew) ?_ ?_
        · intro i hl hi u W hJ hd
          obtain rfl | rfl | rfl | rfl | rfl | rfl | rfl | rfl | rfl:i=0∨i=1∨i=2∨i=3∨i=4∨i=5∨i=6∨i=7∨i=8:=by omega
          · skip
            clear hd
            simp only [zzA,zzB]
            clear hl
            refine .inr ⟨rfl,fun K' hK=>?_⟩
            have HK:=Lib.hid hK
            clear hK
            simp only [layS,Act.put,zzC,zzD,zzE,Nat.zero_add,Nat.reduceAdd]
            go_simp
            exact HK.out _ _ (by simp [layS,updV,lstV,Act.put]) hJ
          · have e0:u 0=.pointer (some ⟨a,0,none⟩):=hd 0 (by kernel_rfl)
            clear hd
            simp only [zzA,zzB]
            clear hl
            refine .inr ⟨rfl,fun K' hK=>?_⟩
            have HK:=Lib.hid hK
            clear hK
            simp only [layS,Act.put,zzC,zzD,zzE,Nat.zero_add,Nat.reduceAdd,e0]
            have E0:=Lib.hid e0
            clear e0
            go_simp
            exact HK.out _ _ (by simp [layS,updV,lstV,Act.put,E0.out]) hJ
          · have e1:u 1=.pointer (some ⟨a,0,none⟩):=hd 1 (by kernel_rfl)
            clear hd
            simp only [zzA,zzB]
            clear hl
            refine .inr ⟨rfl,fun K' hK=>?_⟩
            have HK:=Lib.hid hK
            clear hK
            simp only [layS,Act.put,zzC,zzD,zzE,Nat.zero_add,Nat.reduceAdd,e1]
            have E1:=Lib.hid e1
            clear e1
            go_simp
            exact HK.out _ _ (by simp [layS,updV,lstV,Act.put,E1.out]) hJ
          · have e2:u 2=.pointer (some ⟨a,1,none⟩):=hd 2 (by kernel_rfl)
            clear hd
            simp only [zzA,zzB]
            clear hl
            refine .inr ⟨rfl,fun K' hK=>?_⟩
            have HK:=Lib.hid hK
            clear hK
            simp only [layS,Act.put,zzC,zzD,zzE,Nat.zero_add,Nat.reduceAdd,e2]
            have E2:=Lib.hid e2
            clear e2
            have hc1:=hJ.es.cell 0 rfl 1 rfl
            have hc2:=hJ.c2
            go_simp
            exact HK.out _ _ (by simp [layS,updV,lstV,Act.put,E2.out]) hJ
          · skip
            clear hd
            simp only [zzA,zzB]
            clear hl
            refine .inr ⟨rfl,fun K' hK=>?_⟩
            have HK:=Lib.hid hK
            clear hK
            simp only [layS,Act.put,zzC,zzD,zzE,Nat.zero_add,Nat.reduceAdd]
            go_simp
            exact HK.out _ _ (by simp [layS,updV,lstV,Act.put]) hJ
          · have e4:u 4=.pointer (some ⟨r,2,none⟩):=hd 4 (by kernel_rfl)
            clear hd
            simp only [zzA,zzB]
            clear hl
            refine .inr ⟨rfl,fun K' hK=>?_⟩
            have HK:=Lib.hid hK
            clear hK
            simp only [layS,Act.put,zzC,zzD,zzE,Nat.zero_add,Nat.reduceAdd,e4]
            have E4:=Lib.hid e4
            clear e4
            have hc1:=hJ.es.cell 0 rfl 1 rfl
            have hc2:=hJ.c2
            go_simp
            exact HK.out _ _ (by simp [layS,updV,lstV,Act.put,E4.out]) hJ
          · have e3:u 3=.int .i64 z:=hd 3 (by kernel_rfl)
            have e5:u 5=.int .i64 (bb:Nat):=hd 5 (by kernel_rfl)
            clear hd
            simp only [zzA,zzB]
            clear hl
            refine .inr ⟨rfl,fun K' hK=>?_⟩
            have HK:=Lib.hid hK
            clear hK
            simp only [layS,Act.put,zzC,zzD,zzE,Nat.zero_add,Nat.reduceAdd,e3,e5]
            have E3:=Lib.hid e3
            have E5:=Lib.hid e5
            clear e3 e5
            go_simp
            exact HK.out _ _ (by simp [layS,updV,lstV,Act.put,E3.out,E5.out] <;> (rw [IntKind.wrap_i64]; unfold wrap64; omega)) hJ
          · have e0:u 0=.pointer (some ⟨a,0,none⟩):=hd 0 (by kernel_rfl)
            clear hd
            simp only [zzA,zzB]
            clear hl
            refine .inr ⟨rfl,fun K' hK=>?_⟩
            have HK:=Lib.hid hK
            clear hK
            simp only [layS,Act.put,zzC,zzD,zzE,Nat.zero_add,Nat.reduceAdd,e0]
            have E0:=Lib.hid e0
            clear e0
            go_simp
            exact HK.out _ _ (by simp [layS,updV,lstV,Act.put,E0.out]) hJ
          · have e7:u 7=.pointer (some ⟨a,0,none⟩):=hd 7 (by kernel_rfl)
            clear hd
            simp only [zzA,zzB]
            clear hl
            refine .inr ⟨rfl,fun K' hK=>?_⟩
            have HK:=Lib.hid hK
            clear hK
            simp only [layS,Act.put,zzC,zzD,zzE,Nat.zero_add,Nat.reduceAdd,e7]
            have E7:=Lib.hid e7
            clear e7
            go_simp
            exact HK.out _ _ (by simp [layS,updV,lstV,Act.put,E7.out]) hJ
        intro W hJ
        simp only [layS,lstV,Act.put,zzC,zzD,zzE,Nat.zero_add,Nat.reduceAdd,List.getD_cons_zero,List.getD_cons_succ,List.drop_succ_cons,List.drop_zero,List.drop_nil]
        have hEs:=Lib.hid hJ.es
        have HJ:=Lib.hid hJ
        clear hJ
        go_wp2_with (refine zso rfl (fun K hK=>wp_store 3 (.tmp 35) (.tmp 33) rfl 0 a 1 _ _ 1 [.int .i64 (wrap64 (z+(bb:Nat)))] hEs.out rfl rfl rfl szI3 rfl (show 1+1≤2 by decide) rfl (fun W7 h7 hk hz=>hK _ _ ?_)))
        simp only [Stop,Act.put,zzC,zzD,zzE]
        have h8:=HJ.out.put (by exact h7) hk hz
        have hc1:=h8.c1
        have H8:=Lib.hid h8
        clear h7 hk hz hEs HJ h8
        go_wp2
        go_ret
        exact ⟨v,r,bb,fs,s2,rfl,HL.out,H8.out⟩
      · cases gk with
        | zero=>omega
        | succ m =>
          have Hst:=Lib.hid hst
          clear hst HD
          go_wp2_with fail
          refine (fseek_any H.out h1).mono ?_
          rintro e W4 ⟨s3,rfl,h4,hs3,hrn⟩
          have H4:=Lib.hid h4
          have HF4:=Lib.hid (HF.out.skip Hst.out hrn)
          clear h4 hrn Hst
          go_wp2
          go_roundg m
          case measure=>omega
          case rel=>exact ⟨s3,v,fs,bb,H4,HF4,by omega,.inr ⟨rfl,by omega⟩⟩
      · cases gk with
        | zero=>omega
        | succ m =>
          have Hst:=Lib.hid hst
          clear hst HD
          go_wp2_with fail
          refine (frefuse_any H.out h1 (by omega)).mono ?_
          rintro e W4 ⟨rfl,h4⟩
          have H4:=Lib.hid h4
          have HF4:=Lib.hid (HF.out.wrong Hst.out)
          have hs3:(s2.extract 2 s2.size).size+2=s2.size:=by rw [ByteArray.size_extract]; omega
          generalize s2.extract 2 s2.size=s3 at *
          clear h4 Hst
          go_wp2
          go_roundg m
          case measure=>omega
          case rel=>exact ⟨s3,v,fs,bb+1,H4,HF4,by omega,.inr ⟨rfl,by omega⟩⟩
      · cases gk with
        | zero=>omega
        | succ m =>
          have Hst:=Lib.hid hst
          clear hst HD
          go_wp2_with fail
          refine (ftell_w H.out n (6+n) (s2.extract 4 (4+n)) h3 hn3 rfl hn6 (by rw [show 6+n - 2=4+n by omega]) (by omega) (by omega)).mono ?_
          rintro e W4 ⟨v4,rfl,h4⟩
          have H4:=Lib.hid h4
          have HF4:=Lib.hid (HF.out.told Hst.out)
          have hs3:(s2.extract (6+n) s2.size).size+6≤s2.size:=by rw [ByteArray.size_extract]; omega
          generalize fs++[(s2[2],(s2.extract 4 (4+n)).data.toList)]=fs4 at *
          generalize s2.extract (6+n) s2.size=s3 at *
          clear h4 Hst hn3
          go_wp2
          go_roundg m
          case measure=>omega
          case rel=>exact ⟨s3,v4,fs4,bb,H4,HF4,by omega,.inr ⟨rfl,by omega⟩⟩
    · cases gk with
      | zero=>omega
      | succ m =>
        go_wp2_with fail
        refine (look_any H.out.c0 (by omega)).mono ?_
        rintro e W4 ⟨f,rfl,hdue,hB⟩
        have H4:=Lib.hid (H.out.later hB)
        have HD:=Lib.hid hdue
        clear hB hdue
        go_wp2
        go_roundg m
        case measure=>omega
        case rel=>exact ⟨s2,v,fs,bb,H4,HF,hsz,.inl ⟨HD,by omega⟩⟩
theorem ffeed_any {W:World} {p:Value} {l:List UInt8} {b:Nat} {F:Nat→Prop} (s:ByteArray) (h:ScnA W p l b F) (hs:l.length+s.size≤1000000) :
    Calls Try.prog 13 #[p,.string s] W fun e W'=>∃ v F' c,e=.returned v∧ScnA W' p (rn_ (l++s.data.toList)).2.2 (b+(rn_ (l++s.data.toList)).2.1) F'∧(∀ k,F' k→F k∨W.heap.size≤k)∧Chg F W W'∧FrAt W' v (rn_ (l++s.data.toList)).1 c∧((rn_ (l++s.data.toList)).1 ≠ []→W.heap.size≤c∧¬ F' c):=by
  obtain ⟨a,rfl,rfl,h⟩:=h
  have e:((⟨l.toArray⟩:ByteArray)++s).data.toList=l++s.data.toList:=by rw [ByteArray.data_append,Array.toList_append]
  have e2:((⟨l.toArray⟩:ByteArray)++s).size=l.length+s.size:=by rw [ByteArray.size_append]; show l.toArray.size+_=_; simp
  refine (ffeed_w W a ⟨l.toArray⟩ s _ _ h rfl (by omega)).mono ?_
  rintro e0 W' ⟨v,r,bb,fs,s2,rfl,hrn,hF⟩
  rw [e] at hrn
  rw [hrn]
  obtain ⟨c,hfr,hge⟩:=fr_own hF
  refine ⟨v,_,c,rfl,⟨a,rfl,rfl,?_⟩,fun k hk=>.inl hk,hF.chg,hfr,fun h0=>⟨hge h0,fun hc=>?_⟩⟩
  · have hcl:=hF.es.at' _ (List.mem_cons_self ..)
    have ew:wrap64 (wrap64 ((b:Nat):Int)+(bb:Nat))=wrap64 ((b+bb:Nat):Int):=by unfold wrap64; omega
    rw [ew] at hcl
    simp only
    rw [Array.toArray_toList]
    exact hcl
  · have:=hge h0
    have:=hF.lt
    have hc:c=a:=hc
    omega
/-- The landed package does what the laws want. -/
theorem frameC:FrameC ScnA where
  lt:=scn_lt
  ptr:=fun h=>by obtain ⟨a,rfl,_⟩:=h; exact ⟨_,rfl⟩
  keep:=fun h _ hk=>scn_keep h hk
  new:=fnew_any
  feed:=fun s h hs=>ffeed_any s h hs
  bad:=fun h hb=>fbad_any h hb
  waiting:=fun h=>fwaiting_any h
  wrap:=fwrap_any
  wrapLong:=fwrap_long
end Go.Proofs.Ytadbijfjfoeojaa
