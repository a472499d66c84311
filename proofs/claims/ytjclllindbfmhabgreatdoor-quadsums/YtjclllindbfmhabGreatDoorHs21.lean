/- Parts of the proof. -/
import Derived.Test.YtjclllindbfmhabGreatDoorHs0
import Derived.Test.YtjclllindbfmhabGreatDoorHs20
import Derived.OwnWalk
import Derived.Laws.Append
import Derived.Test.YtjclllindbfmhabGreatDoorHs11
set_option linter.unusedSimpArgs false
set_option linter.unusedVariables false
namespace Go.Proofs.YtjclllindbfmhabGreatDoor
/- Slices that are made, written, appended to, and cut. No statement of the seat is proved here. -/
open Go Go.RowKit
theorem map4 {α β:Type} {f:α→β} {a b c d:α} {x y z u:β} (h:f a=x) (g:f b=y) (k:f c=z) (l:f d=u):#[a,b,c,d].map f=#[x,y,z,u]:=by simp [h,g,k,l]
/-- What the elements of a slice's type are: k cells, these when they are nought, bytes. -/
structure EInf (P:Program) (t e:TypeId) (k:Nat) (z:Value) (by_:Nat):Prop where
 ht:P.underlying t=some (.slice e)
 hi:(P.info? e).map (fun i=>(i.zero,i.size,i.bytes))=some (some z,k,by_)
 zs:z.cells.size=k
 pos:0 < k
 few:by_≤64
/-- A slice's own block, and its cells. -/
def owl (s:Sl) (C:Array Value) (T:TypeId):List (Nat × Array Value × TypeId):=match s.a with
 | some q=>[(q.block,C,T)]
 | none=>[]
structure Wr (k:Nat) (s:Sl) (C:Array Value):Prop where
 cap:s.n≤s.c
 capm:s.c≤maxLen
 sz:C.size=s.c*k
 at_:(s.a=none∧s.c=0)∨∃ b,s.a=some ⟨b,0,none⟩
/-- The first n places' cells. -/
def Fl (k:Nat) (E:El) (n:Nat) (C:Array Value):Fa:=fun X W=>∀ i,i < n→∃ cs:List Value,cs.length=k∧(∀ j,j < k→C[i*k+j]?=cs[j]?)∧E X W i cs
theorem Fl.stb {k:Nat} {E:El} (hE:EStb E) (n:Nat) (C:Array Value):Stb (Fl k E n C):=fun X W X' W' he h i hi=>by
 obtain ⟨cs,h1,h2,h3⟩:=h i hi
 exact ⟨cs,h1,h2,hE i cs X W X' W' he h3⟩
theorem fl_zero (k:Nat) (E:El) (C:Array Value) (X:Nat→Prop) (W:World):Fl k E 0 C X W:=fun i hi=>absurd hi (Nat.not_lt_zero i)
def slz:Sl:=⟨none,0,0⟩
theorem wr_slz (k:Nat):Wr k slz #[]:=⟨Nat.le_refl _,Nat.zero_le _,by simp [slz],.inl ⟨rfl,rfl⟩⟩
/-- One more place. -/
theorem Fl.snoc {k:Nat} {E:El} {n:Nat} {C C':Array Value} {X:Nat→Prop} {W:World} (h:Fl k E n C X W) {cs:List Value} (hk:cs.length=k) (ho:∀ j,j < n*k→C'[j]?=C[j]?) (hn:∀ j,j < k→C'[n*k+j]?=cs[j]?) (hE:E X W n cs):Fl k E (n+1) C' X W:=by
 intro i hi
 by_cases e:i=n
 ·
  subst e; exact ⟨cs,hk,hn,hE⟩
 ·
  obtain ⟨ds,h1,h2,h3⟩:=h i (by omega)
  refine ⟨ds,h1,fun j hj=>?_,h3⟩
  rw [ho]
  ·
   exact h2 j hj
  ·
   have:(i+1)*k≤n*k:=Nat.mul_le_mul_right k (by omega)
   rw [Nat.add_mul] at this
   omega
section
variable {w W:World} {X0 X:Nat→Prop} {l:List (Nat × Array Value × TypeId)} {fs:List Fa}
theorem Zs.sq (h:Zs w W X0 X l fs) (hx:NX X0 w) {k:Nat} {E:El} {s:Sl} {C:Array Value} {T:TypeId} (hE:EStb E) (hw:Wr k s C) (hl:∀ p,p ∈ owl s C T→p ∈ l) (hf:Fl k E s.n C X W):Sq k E s X0 W:=by
 refine ⟨hw.cap,hw.capm,fun e=>?_,fun q hq _=>?_,fun q hq i hi=>?_⟩
 ·
  rcases hw.at_ with ⟨_,h2⟩ | ⟨b,h1⟩
  ·
   have:=hw.cap; omega
  ·
   rw [e] at h1; cases h1
 ·
  obtain ⟨b,rfl⟩:∃ b,q=⟨b,0,none⟩:=by
   rcases hw.at_ with ⟨h1,_⟩ | ⟨b,h1⟩
   ·
    rw [h1] at hq; cases hq
   ·
    rw [h1] at hq; cases hq; exact ⟨b,rfl⟩
  have hm:(b,C,T) ∈ l:=hl _ (by unfold owl; rw [hq]; exact List.mem_singleton.2 rfl)
  refine ⟨rfl,h.es.lt _ hm,fun hX=>?_⟩
  have h1:=h.es.ge _ hm
  have h2:=hx _ hX
  simp only at h1 h2
  omega
 ·
  obtain ⟨b,rfl⟩:∃ b,q=⟨b,0,none⟩:=by
   rcases hw.at_ with ⟨h1,_⟩ | ⟨b,h1⟩
   ·
    rw [h1] at hq; cases hq
   ·
    rw [h1] at hq; cases hq; exact ⟨b,rfl⟩
  have hm:(b,C,T) ∈ l:=hl _ (by unfold owl; rw [hq]; exact List.mem_singleton.2 rfl)
  have hc:W.heap[b]?=some (.cells C T (0,0)):=h.es.at' _ hm
  obtain ⟨cs,h1,h2,h3⟩:=hf i hi
  refine ⟨cs,h1,fun j hj=>?_,hE i cs _ _ _ _ (Ext.less W h.sub) h3⟩
  rw [← h2 j hj]
  simp only [Nat.zero_add]
  cases e:C[i*k+j]? with
  | some v=>simp [World.cell?,hc,e]
  | none =>
   exfalso
   have h4:=Array.getElem?_eq_none_iff.1 e
   have h5:=hw.sz
   have h6:(i+1)*k≤s.c*k:=Nat.mul_le_mul_right k (by have:=hw.cap; omega)
   rw [Nat.add_mul] at h6
   omega
end
theorem Zs.perm {w W:World} {X0 X:Nat→Prop} {l l':List (Nat × Array Value × TypeId)} {fs:List Fa} (h:Zs w W X0 X l fs) (hp:l.Perm l'):Zs w W X0 X l' fs :=
 ⟨⟨h.es.below,fun p hm=>h.es.at' p (hp.mem_iff.2 hm),(hp.map _).nodup_iff.1 h.es.nd,fun p hm=>h.es.ge p (hp.mem_iff.2 hm)⟩,h.nx,fun p hm=>h.own p (hp.mem_iff.2 hm),h.sub,h.fs,h.ext⟩
/-- A variable that will not be written any more. -/
theorem Zs.release {w W:World} {X0 X:Nat→Prop} {l:List (Nat × Array Value × TypeId)} {fs:List Fa} {b:Nat} {C:Array Value} {T:TypeId} (h:Zs w W X0 X ((b,C,T) :: l) fs) (hx:NX X0 w):Zs w W X0 (fun k=>X k∧k ≠ b) l (Cf b C T :: fs):=by
 have hge:=h.es.ge (b,C,T) (List.mem_cons_self ..)
 have hnd:=(List.nodup_cons.1 (show (b :: l.map (·.1)).Nodup from h.es.nd)).1
 have he:Ext X W (fun k=>X k∧k ≠ b) W:=Ext.less W fun k hk=>hk.1
 refine ⟨h.es.sub (List.sublist_cons_self _ _),fun k hk=>h.nx k hk.1,fun p hp=>⟨h.own p (List.mem_cons_of_mem _ hp),fun e=>hnd (e ▸ List.mem_map.2 ⟨p,hp,rfl⟩)⟩,fun k hk=>⟨h.sub k hk,fun e=>?_⟩,fun f hf=>?_,h.ext.trans he⟩
 ·
  have:=hx k hk
  simp only at hge
  omega
 ·
  rcases List.mem_cons.1 hf with rfl | hf
  ·
   exact ⟨Cf.stb _ _ _,h.es.at' _ (List.mem_cons_self ..),fun hk=>hk.2 rfl⟩
  ·
   exact ⟨(h.fs f hf).1,(h.fs f hf).1 _ _ _ _ he (h.fs f hf).2⟩
theorem perm_mid {α:Type} (L A B:List α):(L++(A++B)).Perm (A++(L++B)):=by
 rw [← List.append_assoc,← List.append_assoc]
 exact List.perm_append_comm.append_right B
theorem Wr.nil {k:Nat} {s:Sl} {C:Array Value} (h:Wr k s C) (e:s.a=none):s.n=0:=by
 have:=h.cap
 rcases h.at_ with ⟨_,h2⟩ | ⟨b,h1⟩
 ·
  omega
 ·
  rw [e] at h1; cases h1
section
variable {P:Program} {ops:Array Oper} {Q:Exit→Act→World→Prop} {a:Act} {w W:World} {rest:List Oper} {o:Oper} {l:List (Nat × Array Value × TypeId)} {X0 X:Nat→Prop} {fs:List Fa} {next:Act→World→Prop}
theorem stopz_make {t e:TypeId} {k by_:Nat} {z:Value} (hI:EInf P t e k z by_) (x y:Operand) (n:Nat) (hg:o.guard=none) (ho:o.op=.makeSlice t x y) (hx:a.eval x=.int .i64 (n:Int)) (hy:a.eval y=.int .i64 (n:Int)) (hn:n≤1000000) (h:Zs w W X0 X l fs)
  (K:∀ (s:Sl) (C:Array Value) (X':Nat→Prop) (W':World),s.n=n→Wr k s C→Zs w W' X0 X' (owl s C e++l) fs→Stop (wpList P ops Q rest (a.put o.dst s.v) W')):wpList P ops Q (o :: rest) a W:=by
 refine wpList_plain hg fun K' hK=>?_
 obtain ⟨i,hi,hz,hs,hb⟩:=info_parts hI.hi
 have hr:=run_make (P:=P) W t e i z hI.ht hi hz .i64 .i64 (n:Int) (n:Int) (by omega) (Int.le_refl _) (by
  rw [hb]
  have:=hI.few
  have:=Nat.mul_le_mul this hn
  have e:((by_:Nat):Int)*(n:Int)=((by_*n:Nat):Int):=by rw [Int.natCast_mul]
  rw [e]
  omega) (by omega)
 rw [Int.toNat_natCast,hs] at hr
 have e1:(execOp a.eval o).run P W=.ok (.value (.slice (some ⟨W.heap.size,0,none⟩) n n)) (W.alloc (.cells (madeCells z.cells (n*k)) e)):=by
  unfold execOp
  rw [ho]
  simp only [hx,hy,Sem.run_bind,hr,Result.andThen]
  rfl
 unfold Oper.wp
 rw [e1]
 exact hK _ _ (K ⟨some ⟨W.heap.size,0,none⟩,n,n⟩ (madeCells z.cells (n*k)) _ _ rfl ⟨Nat.le_refl _,(by have:=hn; show n≤maxLen; unfold maxLen; omega),size_madeCells _ _,.inr ⟨_,rfl⟩⟩ (h.new _ e))
theorem putC_get:∀ (vs:List Value) (C:Array Value) (off j:Nat),off+vs.length≤C.size→(putC C off vs)[j]?=if off≤j∧j < off+vs.length then vs[j - off]? else C[j]?
 | [],C,off,j,_=>by
  rw [if_neg (by rintro ⟨h1,h2⟩; rw [List.length_nil] at h2; omega)]
  rfl
 | v :: r,C,off,j,h=>by
  rw [List.length_cons] at h
  show (putC (C.setIfInBounds off v) (off+1) r)[j]?=_
  rw [putC_get r _ (off+1) j (by rw [Array.size_setIfInBounds]; omega),List.length_cons]
  by_cases e:j=off
  ·
   subst e
   rw [if_neg (by omega),if_pos (by omega),Nat.sub_self]
   rw [Array.getElem?_setIfInBounds_self,if_pos (by omega)]
   rfl
  ·
   by_cases e1:off+1≤j∧j < off+1+r.length
   ·
    rw [if_pos e1,if_pos (by omega),show j - off=(j - (off+1))+1 by omega]
    rfl
   ·
    rw [if_neg e1,if_neg (by omega),Array.getElem?_setIfInBounds_ne (fun h=>e h.symm)]
theorem putC_size:∀ (vs:List Value) (C:Array Value) (off:Nat),(putC C off vs).size=C.size
 | [],_,_=>rfl
 | v :: r,C,off=>by
  show (putC (C.setIfInBounds off v) (off+1) r).size=_
  rw [putC_size r,Array.size_setIfInBounds]
theorem stopz_put (T:TypeId) (p x:Operand) {k:Nat} {e:TypeId} (s:Sl) (C:Array Value) (i:Nat) (vs:List Value) (hg:o.guard=none) (ho:o.op=.store T p x) (hp:a.eval p=s.at k i) (hx:(a.eval x).cells.toList=vs) (hn:∀ W,(sizeOf T).run P W=.ok k W) (hv:vs.length=k) (hb:vs.all (·.oneCell')=true) (hw:Wr k s C) (hi:i < s.n) (h:Zs w W X0 X (owl s C e++l) fs)
  (K:∀ (C':Array Value) (W':World),Wr k s C'→(∀ j,j < k→C'[i*k+j]?=vs[j]?)→(∀ j,(j < i*k∨i*k+k≤j)→C'[j]?=C[j]?)→Zs w W' X0 X (owl s C' e++l) fs→Stop (wpList P ops Q rest (a.put o.dst undef) W')):wpList P ops Q (o :: rest) a W:=by
 obtain ⟨sa,sn,sc⟩:=s
 rcases hw.at_ with ⟨h1,h2⟩ | ⟨b,h1⟩
 ·
  have:=hw.cap
  simp only at h2 this hi
  omega
 ·
  simp only at h1
  subst h1
  have hadd:(⟨b,0,none⟩:Addr).add (i*k)=⟨b,i*k,none⟩:=by unfold Addr.add; split <;> simp_all
  have hp':a.eval p=.pointer (some ⟨b,i*k,none⟩):=by rw [hp]; unfold Sl.at; simp only [hadd]
  have hle:i*k+k≤C.size:=by
   rw [hw.sz]
   have:(i+1)*k≤sc*k:=Nat.mul_le_mul_right k (by have:=hw.cap; simp only at this hi; omega)
   rw [Nat.add_mul] at this
   simp only
   omega
  refine wpList_plain hg fun K' hK=>wp_store T p x ho 0 b (i*k) C e k vs h.es rfl hp' hx hn hv hle hb (fun W' he hk hz=>hK _ _ ?_)
  have hz':Zs w W' X0 X (owl ⟨some ⟨b,0,none⟩,sn,sc⟩ (putC C (i*k) vs) e++l) fs:=h.put (j:=0) (b:=b) (C:=C) (C':=putC C (i*k) vs) (T:=e) rfl he hk hz
  refine K (putC C (i*k) vs) W' ⟨hw.cap,hw.capm,by rw [putC_size]; exact hw.sz,hw.at_⟩ (fun j hj=>?_) (fun j hj=>?_) hz'
  ·
   rw [putC_get _ _ _ _ (by rw [hv]; exact hle),if_pos (by omega),Nat.add_sub_cancel_left]
  ·
   rw [putC_get _ _ _ _ (by rw [hv]; exact hle),if_neg (by omega)]
theorem set2 (f:Nat→Value) (x y:Value):(((Array.range 2).map f).setIfInBounds 0 x).setIfInBounds 1 y=#[x,y]:=by
 refine Array.ext (by simp) fun i h1 h2=>?_
 simp at h1
 obtain rfl | rfl:i=0∨i=1:=by omega
 ·
  simp
 ·
  simp
theorem set1 (f:Nat→Value) (x:Value):((Array.range 1).map f).setIfInBounds 0 x=#[x]:=by
 refine Array.ext (by simp) fun i h1 h2=>?_
 simp at h1
 obtain rfl:i=0:=by omega
 simp
theorem run_bsl2 {t e:TypeId} {by_:Nat} {z:Value} (hI:EInf P t e 2 z by_) (x y:Value) (W:World):(Instr.buildSlice t 1 #[(0,.agg #[x,y])]).run P W=.ok (.slice (some ⟨W.heap.size,0,none⟩) 1 1) (W.alloc (.cells #[x,y] e)):=by
 obtain ⟨i,hi,hz,hs,hb⟩:=info_parts hI.hi
 simp [Instr.buildSlice,run_underlying hI.ht,sizeOf,typeInfo,hi,hs,zeroValue,hz,Instr.fill,newRow,Value.cells,set2]
theorem run_bsl1 {t e:TypeId} {by_:Nat} {z:Value} (hI:EInf P t e 1 z by_) (v:Value) (hv:v.cells=#[v]) (W:World):(Instr.buildSlice t 1 #[(0,v)]).run P W=.ok (.slice (some ⟨W.heap.size,0,none⟩) 1 1) (W.alloc (.cells #[v] e)):=by
 obtain ⟨i,hi,hz,hs,hb⟩:=info_parts hI.hi
 simp [Instr.buildSlice,run_underlying hI.ht,sizeOf,typeInfo,hi,hs,zeroValue,hz,Instr.fill,newRow,hv,set1]
/-- Two operations in a row: a list of one is built, and put at the end of one's own. -/
theorem run_app {t e ty:TypeId} {k by_:Nat} {z:Value} (hI:EInf P t e k z by_) {s:Sl} {C:Array Value} (hw:Wr k s C) (hn:s.n≤100000) (h:Zs w W X0 X (owl s C e++l) fs) (ad:Addr) (c:Nat) (news:List Value) (hl:news.length=k) (hnews:∀ j u,news[j]?=some u→W.cell? (ad.add j)=some u) (h1:∀ u ∈ news,u.oneCell'=true) :
  ∃ (s':Sl) (C':Array Value) (X':Nat→Prop) (W':World),(Builtin.append_ #[t,t] ty #[s.v,.slice (some ad) 1 c]).run P W=.ok s'.v W'∧s'.n=s.n+1∧Wr k s' C'∧(∀ j,j < s.n*k→C'[j]?=C[j]?)∧(∀ j,j < k→C'[s.n*k+j]?=news[j]?)∧Zs w W' X0 X' (owl s' C' e++l) fs:=by
 obtain ⟨i,hi,hz,hs,hb⟩:=info_parts hI.hi
 have hpos:=hI.pos
 have hfew:=hI.few
 have hby:(s.n+1)*by_≤100001*64:=Nat.mul_le_mul (by omega) hfew
 subst hs
 -- a new row
 have fresh:∀ (D:Array Value) (cp:Nat) (l':List (Nat × Array Value × TypeId)),Zs w W X0 X l' fs→(∀ p,p ∈ l→p ∈ l')→l.Sublist l'→Zs w (W.drew.alloc (.cells D e)) X0 (fun q=>X q∨q=W.drew.heap.size) (owl ⟨some ⟨W.drew.heap.size,0,none⟩,s.n+1,cp⟩ D e++l) fs:=fun D cp l' hz' _ hsub=>((hz'.drop hsub).later (Below.refl _ _).drew).new D e
 rcases hw.at_ with ⟨ha,hc⟩ | ⟨b,ha⟩
 ·
  obtain ⟨sa,sn,sc⟩:=s
  simp only at ha hc
  subst ha hc
  have hn0:sn=0:=by have:=hw.cap; simp only at this; omega
  subst hn0
  have hr:=run_append_nil (P:=P) W t ty e i z hI.ht hi hz ad 1 c news (by rw [hl]; omega) hnews (by omega) (by omega) (by rw [hb]; omega)
  have hge:=grownCap_ge W 1 0 e
  refine ⟨⟨some ⟨W.heap.size,0,none⟩,1,grownCap W 1 0 e⟩,_,_,_,hr,rfl,⟨hge,grownCap_le_maxLen W 1 0 e (by unfold maxLen; omega),?_,.inr ⟨_,rfl⟩⟩,fun j hj=>by simp at hj,fun j hj=>?_,fresh _ _ _ h (fun p hp=>List.mem_append_right _ hp) (List.sublist_append_right _ _)⟩
  ·
   simp only [Array.size_append,List.size_toArray,size_zeroCells,hl,hI.zs]
   have:1*i.size+(grownCap W 1 0 e - 1)*i.size=grownCap W 1 0 e*i.size:=by rw [← Nat.add_mul]; congr 1; omega
   omega
  ·
   simp only [Nat.zero_mul,Nat.zero_add]
   rw [Array.getElem?_append_left (by simp; omega)]
   simp
 ·
  obtain ⟨sa,sn,sc⟩:=s
  simp only at ha
  subst ha
  have hg:W.heap[b]?=some (.cells C e (0,0)):=h.es.at' (b,C,e) (List.mem_cons_self ..)
  have hcap:=hw.cap
  have hsz:=hw.sz
  simp only at hcap hsz hn hby
  by_cases hroom:sn+1≤sc
  ·
   have hfit:sn*i.size+news.length≤C.size:=by
    rw [hl,hsz]
    have:=Nat.mul_le_mul_right i.size hroom
    rw [Nat.add_mul] at this
    omega
   have hr:=run_append_room (P:=P) W t ty e i hI.ht hi b sn sc C hg ad 1 c news (by rw [hl]; omega) hnews h1 hroom hfit
   have hX:X b:=h.own (b,C,e) (List.mem_cons_self ..)
   refine ⟨⟨some ⟨b,0,none⟩,sn+1,sc⟩,(C.toList.take (sn*i.size)++news++C.toList.drop (sn*i.size+news.length)).toArray,X,_,hr,rfl,⟨hroom,hw.capm,?_,.inr ⟨_,rfl⟩⟩,fun j hj=>?_,fun j hj=>?_,?_⟩
   ·
    simp only [List.size_toArray,List.length_append,List.length_take,List.length_drop,Array.length_toList]
    omega
   ·
    simp only at hj
    rw [List.getElem?_toArray,List.append_assoc,List.getElem?_append_left (by simp; omega),List.getElem?_take,if_pos hj]
    simp
   ·
    rw [List.getElem?_toArray,List.append_assoc,List.getElem?_append_right (by simp; omega)]
    simp only [List.length_take,Array.length_toList]
    rw [show sn*i.size+j - min (sn*i.size) C.size=j by omega,List.getElem?_append_left (by omega)]
   ·
    have hk:∀ q,q ≠ b→(W.setRow b (C.toList.take (sn*i.size)++news++C.toList.drop (sn*i.size+news.length)).toArray).heap[q]?=W.heap[q]?:=fun q hq=>setRow_other W b q _ hq
    have hes:Es w (W.setRow b (C.toList.take (sn*i.size)++news++C.toList.drop (sn*i.size+news.length)).toArray) ((b,(C.toList.take (sn*i.size)++news++C.toList.drop (sn*i.size+news.length)).toArray,e) :: l):=by
     have hnd:=h.es.nd
     refine ⟨⟨h.below.os,h.below.tape,h.below.output,by simpa using h.below.size,fun q hq=>?_⟩,fun p hp=>?_,h.es.nd,fun p hp=>?_⟩
     ·
      have:=h.es.ge (b,C,e) (List.mem_cons_self ..)
      simp only at this
      rw [hk q (by omega)]
      exact h.below.block q hq
     ·
      rcases List.mem_cons.1 hp with rfl | hp
      ·
       exact setRow_heap W b C _ e _ hg
      ·
       have hne:p.1 ≠ b:=by
        intro hc
        have:=(List.nodup_cons.1 (show (b :: l.map (·.1)).Nodup from hnd)).1
        exact this (hc ▸ List.mem_map.2 ⟨p,hp,rfl⟩)
       show _=_
       rw [hk _ hne]
       exact h.es.at' p (List.mem_cons_of_mem _ hp)
     ·
      rcases List.mem_cons.1 hp with rfl | hp
      ·
       exact h.es.ge (b,C,e) (List.mem_cons_self ..)
      ·
       exact h.es.ge p (List.mem_cons_of_mem _ hp)
    exact h.put (j:=0) (b:=b) (C:=C) (T:=e) rfl hes hk (by simp)
  ·
   have hold:∀ j u,(C.toList.take (sn*i.size))[j]?=some u→W.cell? ((⟨b,0,none⟩:Addr).add j)=some u:=by
    intro j u hu
    have hadd:(⟨b,0,none⟩:Addr).add j=⟨b,j,none⟩:=by unfold Addr.add; split <;> simp_all
    rw [hadd]
    rw [List.getElem?_take] at hu
    split at hu
    ·
     simp [World.cell?,hg]; simpa using hu
    ·
     cases hu
   have hle:sn*i.size≤C.size:=by rw [hsz]; exact Nat.mul_le_mul_right _ hcap
   have hr:=run_append_grow (P:=P) W t ty e i z hI.ht hi hz ⟨b,0,none⟩ sn sc (C.toList.take (sn*i.size)) (by simp; omega) hold ad 1 c news (by rw [hl]; omega) hnews (by omega) (by omega) (growslice_fits (by omega) (by rw [hb]; omega))
   have hge:=grownCap_ge W (sn+1) sc e
   refine ⟨⟨some ⟨W.heap.size,0,none⟩,sn+1,grownCap W (sn+1) sc e⟩,_,_,_,hr,rfl,⟨hge,grownCap_le_maxLen W (sn+1) sc e (by unfold maxLen; omega),?_,.inr ⟨_,rfl⟩⟩,fun j hj=>?_,fun j hj=>?_,fresh _ _ _ h (fun p hp=>List.mem_append_right _ hp) (List.sublist_append_right _ _)⟩
   ·
    simp only [Array.size_append,List.size_toArray,size_zeroCells,hl,hI.zs,List.length_take,Array.length_toList]
    have:(sn+1)*i.size+(grownCap W (sn+1) sc e - (sn+1))*i.size=grownCap W (sn+1) sc e*i.size:=by rw [← Nat.add_mul]; congr 1; omega
    rw [Nat.add_mul] at this
    omega
   ·
    simp only at hj
    rw [Array.append_assoc,Array.getElem?_append_left (by simp; omega),List.getElem?_toArray,List.getElem?_take,if_pos hj]
    simp
   ·
    simp only
    rw [Array.append_assoc,Array.getElem?_append_right (by simp; omega)]
    simp only [List.size_toArray,List.length_take,Array.length_toList]
    rw [show sn*i.size+j - min (sn*i.size) C.size=j by omega,Array.getElem?_append_left (by simp; omega)]
    simp
theorem wp_app {t e:TypeId} {k by_:Nat} {z:Value} (hI:EInf P t e k z by_) (x y:Operand) (ho:o.op=.call { callee:=.builtin .append,args:=#[x,y],argTypes:=#[t,t] }) {s:Sl} {C:Array Value} (hx:a.eval x=s.v) (ad:Addr) (c:Nat) (hy:a.eval y=.slice (some ad) 1 c) (hw:Wr k s C) (hn:s.n≤100000) (h:Zs w W X0 X (owl s C e++l) fs) (news:List Value) (hl:news.length=k) (hnews:∀ j u,news[j]?=some u→W.cell? (ad.add j)=some u) (h1:∀ u ∈ news,u.oneCell'=true)
  (K:∀ (s':Sl) (C':Array Value) (X':Nat→Prop) (W':World),s'.n=s.n+1→Wr k s' C'→(∀ j,j < s.n*k→C'[j]?=C[j]?)→(∀ j,j < k→C'[s.n*k+j]?=news[j]?)→Zs w W' X0 X' (owl s' C' e++l) fs→next (a.put o.dst s'.v) W'):o.wp P a W next Q:=by
 obtain ⟨s',C',X',W',hr,h2,h3,h4,h5,h6⟩:=run_app (P:=P) (ty:=o.type) hI hw hn h ad c news hl hnews h1
 unfold Oper.wp execOp
 simp only [ho,resolve,invoke,builtin,Sem.run_bind,Sem.run_pure,Result.andThen_ok,List.map_toArray,List.map_cons,List.map_nil,hx,hy,hr]
 exact K s' C' X' W' h2 h3 h4 h5 h6
/-- A list of one is built. -/
theorem wp_bs2 {t e:TypeId} {by_:Nat} {z:Value} (hI:EInf P t e 2 z by_) (x:Operand) (ho:o.op=.buildSlice t 1 #[(0,x)]) {u v:Value} (hx:a.eval x=.agg #[u,v]) (k:next (a.put o.dst (.slice (some ⟨W.heap.size,0,none⟩) 1 1)) (W.alloc (.cells #[u,v] e))):o.wp P a W next Q:=by
 have e:(execOp a.eval o).run P W=.ok (.value (.slice (some ⟨W.heap.size,0,none⟩) 1 1)) (W.alloc (.cells #[u,v] e)):=by
  unfold execOp
  rw [ho]
  simp only [List.map_toArray,List.map_cons,List.map_nil,hx,Sem.run_bind,run_bsl2 hI,Result.andThen]
  rfl
 unfold Oper.wp
 rw [e]
 exact k
theorem wp_bs1 {t e:TypeId} {by_:Nat} {z:Value} (hI:EInf P t e 1 z by_) (x:Operand) (ho:o.op=.buildSlice t 1 #[(0,x)]) {v:Value} (hx:a.eval x=v) (hv:v.cells=#[v]) (k:next (a.put o.dst (.slice (some ⟨W.heap.size,0,none⟩) 1 1)) (W.alloc (.cells #[v] e))):o.wp P a W next Q:=by
 have e:(execOp a.eval o).run P W=.ok (.value (.slice (some ⟨W.heap.size,0,none⟩) 1 1)) (W.alloc (.cells #[v] e)):=by
  unfold execOp
  rw [ho]
  simp only [List.map_toArray,List.map_cons,List.map_nil,hx,Sem.run_bind,run_bsl1 hI v hv,Result.andThen]
  rfl
 unfold Oper.wp
 rw [e]
 exact k
theorem cell_two (W:World) (u v:Value) (e:TypeId) (j:Nat) (x:Value) (hj:[u,v][j]?=some x):(W.alloc (.cells #[u,v] e)).cell? ((⟨W.heap.size,0,none⟩:Addr).add j)=some x:=by
 have hadd:(⟨W.heap.size,0,none⟩:Addr).add j=⟨W.heap.size,j,none⟩:=by unfold Addr.add; split <;> simp_all
 have h:(W.alloc (.cells #[u,v] e)).heap[W.heap.size]?=some (.cells #[u,v] e (0,0)):=heap_new W _
 rw [hadd]
 simp only [World.cell?,h]
 simpa using hj
theorem cell_one (W:World) (v:Value) (e:TypeId) (j:Nat) (x:Value) (hj:[v][j]?=some x):(W.alloc (.cells #[v] e)).cell? ((⟨W.heap.size,0,none⟩:Addr).add j)=some x:=by
 have hadd:(⟨W.heap.size,0,none⟩:Addr).add j=⟨W.heap.size,j,none⟩:=by unfold Addr.add; split <;> simp_all
 have h:(W.alloc (.cells #[v] e)).heap[W.heap.size]?=some (.cells #[v] e (0,0)):=heap_new W _
 rw [hadd]
 simp only [World.cell?,h]
 simpa using hj
end
section
variable {Q:Exit→Act→World→Prop} {a:Act} {W:World} {o:Oper} {next:Act→World→Prop}
theorem wp_rem2 {n:Nat} (x y:Operand) (ho:o.op=.binOp .rem 3 x y 3) (hx:a.eval x=.int .i64 ((n:Nat):Int)) (hy:a.eval y=.int .i64 2) (k:next (a.put o.dst (.int .i64 ((n % 2:Nat):Int))) W):o.wp Tryz.prog a W next Q:=by
 refine wp_run ?_ k
 unfold execOp
 rw [ho]
 simp only [hx,hy]
 have hw:Int.tmod ((n:Nat):Int) 2=((n % 2:Nat):Int):=by rw [Int.tmod_eq_emod_of_nonneg (by omega)]; omega
 have hw2:IntKind.i64.wrap ((n % 2:Nat):Int)=((n % 2:Nat):Int):=IntWalk.i64_in _ ⟨by omega,by omega⟩
 simp [go_sem,hw]
theorem wp_neqb {p q:Bool} (x y:Operand) (T T':TypeId) (hT:(T == 4)=true) (ho:o.op=.binOp .neq T x y T') (hx:a.eval x=.bool p) (hy:a.eval y=.bool q) (k:next (a.put o.dst (.bool (p != q))) W):o.wp Tryz.prog a W next Q:=by
 have:=eq_of_beq hT
 subst this
 refine wp_run ?_ k
 unfold execOp
 rw [ho]
 simp only [hx,hy]
 simp [go_sem]
 cases p <;> cases q <;> rfl
end
theorem Fl.congr {k:Nat} {E E':El} {n:Nat} {C:Array Value} {X:Nat→Prop} {W:World} (h:Fl k E n C X W) (hE:∀ i cs,i < n→E X W i cs→E' X W i cs):Fl k E' n C X W:=fun i hi=>by
 obtain ⟨cs,h1,h2,h3⟩:=h i hi
 exact ⟨cs,h1,h2,hE i cs hi h3⟩
/-- A slot and a variable are handed back. -/
theorem results_tc {P:Program} {w W:World} {l:List (Nat × Array Value × TypeId)} {fn:Func} {tmps:Array Value} {t0 t n b:Nat} {T T':TypeId} {C D:Array Value} {v:Value} (k:Nat) (hf:fn.results=#[.tmp t0,.cell t T]) (h:Es w W l) (hj:l[k]?=some (b,C,T')) (hagg:∀ W,(isAgg T).run P W=.ok true W) (hn:∀ W,(sizeOf T).run P W=.ok n W) (hs:n≤C.size) (hp:tmps.getD t undef=.pointer (some ⟨b,0,none⟩)) (hv:tmps.getD t0 undef=v) (hD:C.extract 0 (0+n)=D):(results fn tmps).run P W=.ok (.tuple #[v,.agg D]) W:=by
 have hl:=run_loadAgg (P:=P) (T:=T) (off:=0) (h.at' _ (List.mem_of_getElem? hj)) hagg hn (by omega)
 rw [hD] at hl
 have hl2:(loadVar T ⟨b,0,none⟩).run P W=.ok (.agg D) W:=by
  unfold Instr.loadAt at hl
  have hsa:(Instr.sureAddr (.pointer (some ⟨b,0,none⟩))).run P W=.ok ⟨b,0,none⟩ W:=rfl
  simpa only [Sem.run_bind,hsa,Result.andThen] using hl
 unfold results
 rw [hf]
 have hp':tmps[t]?.getD undef=.pointer (some ⟨b,0,none⟩):=by rw [← Array.getD_eq_getD_getElem?]; exact hp
 have hv':tmps[t0]?.getD undef=v:=by rw [← Array.getD_eq_getD_getElem?]; exact hv
 simp [hp',hv',asAddr,Sem.run_bind,hl2,Result.andThen,Sem.run_pure]
/-- A variable that a region has made joins. -/
theorem Zs.join {w W W':World} {X0 X:Nat→Prop} {l:List (Nat × Array Value × TypeId)} {fs:List Fa} {b:Nat} {C:Array Value} {T:TypeId} (h:Zs w W X0 X l fs) (hb:Below W.heap.size W W') (hge:W.heap.size≤b) (hc:Cl W' (b,C,T)):Zs w W' X0 (fun k=>X k∨k=b) ((b,C,T) :: l) fs:=by
 have hlt:b < W'.heap.size:=(Array.getElem?_eq_some_iff.1 hc).1
 have he:Ext X W (fun k=>X k∨k=b) W':=⟨hb.size,fun k hk _=>hb.block k hk,fun k hk hl=>hk.elim id fun e=>absurd e (by omega)⟩
 have h':=h.later hb
 refine ⟨⟨h'.es.below,fun p hp=>?_,?_,fun p hp=>?_⟩,fun k hk=>?_,fun p hp=>?_,fun k hk=>.inl (h.sub k hk),fun f hf=>⟨(h.fs f hf).1,(h.fs f hf).1 _ _ _ _ he (h.fs f hf).2⟩,h.ext.trans he⟩
 ·
  rcases List.mem_cons.1 hp with rfl | hp
  ·
   exact hc
  ·
   exact h'.es.at' p hp
 ·
  refine List.nodup_cons.2 ⟨fun hm=>?_,h.es.nd⟩
  obtain ⟨p,hp,e⟩:=List.mem_map.1 hm
  have:=h.es.lt p hp
  change p.1=b at e
  omega
 ·
  rcases List.mem_cons.1 hp with rfl | hp
  ·
   exact Nat.le_trans h.below.size hge
  ·
   exact h.es.ge p hp
 ·
  rcases hk with hk | rfl
  ·
   exact h'.nx k hk
  ·
   exact hlt
 ·
  rcases List.mem_cons.1 hp with rfl | hp
  ·
   exact .inr rfl
  ·
   exact .inl (h.own p hp)
/-- A part of a slice. -/
def Sl.cut (s:Sl) (k l h:Nat):Sl:=⟨if s.c=l then s.a else s.a.map (·.add (l*k)),h - l,s.c - l⟩
theorem Ls.cut {n:Nat} {x:Nat→Int} {s:Sl} {X:Nat→Prop} {W:World} (h:Ls n x s X W) {l u:Nat} (hl:l≤u) (hu:u≤n):Ls (u - l) (fun j=>x (l+j)) (s.cut 2 l u) X W:=by
 have hcap:=h.sq.cap
 have hn:=h.n
 refine ⟨rfl,?_,?_,?_,?_,?_⟩
 ·
  show u - l≤s.c - l; omega
 ·
  have:=h.sq.capm; show s.c - l≤maxLen; omega
 ·
  intro e
  have e':s.a=none:=by
   unfold Sl.cut at e
   simp only at e
   split at e
   ·
    exact e
   ·
    cases hs:s.a with
    | none=>rfl
    | some q=>rw [hs] at e; cases e
  have:=h.sq.nil e'
  exact ⟨by show u - l=0; omega,by show s.c - l=0; omega⟩
 ·
  intro q hq h0
  change 0 < u - l at h0
  unfold Sl.cut at hq
  simp only at hq
  split at hq
  ·
   exact h.sq.spot q hq (by omega)
  ·
   cases hs:s.a with
   | none=>rw [hs] at hq; cases hq
   | some p =>
    rw [hs] at hq
    simp only [Option.map_some,Option.some.injEq] at hq
    subst hq
    obtain ⟨h1,h2,h3⟩:=h.sq.spot p hs (by omega)
    obtain ⟨pb,po,ps⟩:=p
    simp only at h1
    subst h1
    have hadd:(⟨pb,po,none⟩:Addr).add (l*2)=⟨pb,po+l*2,none⟩:=by unfold Addr.add; split <;> simp_all
    rw [hadd]
    exact ⟨rfl,h2,h3⟩
 ·
  intro q hq i hi
  change i < u - l at hi
  unfold Sl.cut at hq
  simp only at hq
  split at hq
  ·
   omega
  ·
   cases hs:s.a with
   | none=>rw [hs] at hq; cases hq
   | some p =>
    rw [hs] at hq
    simp only [Option.map_some,Option.some.injEq] at hq
    subst hq
    obtain ⟨h1,h2,h3⟩:=h.sq.spot p hs (by omega)
    obtain ⟨pb,po,ps⟩:=p
    simp only at h1
    subst h1
    have hadd:(⟨pb,po,none⟩:Addr).add (l*2)=⟨pb,po+l*2,none⟩:=by unfold Addr.add; split <;> simp_all
    obtain ⟨cs,k1,k2,k3⟩:=h.sq.el _ hs (l+i) (by omega)
    refine ⟨cs,k1,fun j hj=>?_,k3⟩
    rw [hadd]
    have:=k2 j hj
    simp only at this ⊢
    rw [show po+l*2+i*2+j=po+(l+i)*2+j by omega]
    exact this
section
variable {P:Program} {Q:Exit→Act→World→Prop} {a:Act} {W W0:World} {X:Nat→Prop} {o:Oper} {next:Act→World→Prop}
theorem run_cut {t e:TypeId} {k:Nat} (ht:P.underlying t=some (.slice e)) (hk:∀ W,(sizeOf e).run P W=.ok k W) (s:Sl) (l u:Nat) (hl:l≤u) (hu:u≤s.c):(Instr.sliceAt t s.v (some (.int .i64 (l:Int))) (some (.int .i64 (u:Int))) none).run P W=.ok (s.cut k l u).v W:=by
 have h1:(0:Int)≤(l:Int)∧(l:Int)≤(u:Int):=⟨by omega,by omega⟩
 have h2:(0:Int)≤(u:Int)∧(u:Int)≤(s.c:Int):=⟨by omega,by omega⟩
 simp [Instr.sliceAt,Instr.slice,Instr.sliceBounds,Instr.sliceBound,Sl.v,asIntOf,run_underlying ht,hk,Sem.run_bind,Result.andThen,Sl.cut,hl,hu]
theorem run_cutn {t e:TypeId} {k:Nat} (ht:P.underlying t=some (.slice e)) (hk:∀ W,(sizeOf e).run P W=.ok k W) (s:Sl) (l:Nat) (hl:l≤s.n):(Instr.sliceAt t s.v (some (.int .i64 (l:Int))) none none).run P W=.ok (s.cut k l s.n).v W:=by
 simp [Instr.sliceAt,Instr.slice,Instr.sliceBounds,Instr.sliceBound,Sl.v,asIntOf,run_underlying ht,hk,Sem.run_bind,Result.andThen,Sl.cut,hl]
theorem wp_slc (t e:TypeId) (k:Nat) (x y z:Operand) (s:Sl) (l u:Nat) (ho:o.op=.slice t x (some y) (some z) none) (hx:a.eval x=s.v) (hy:a.eval y=.int .i64 (l:Int)) (hz:a.eval z=.int .i64 (u:Int)) (ht:P.underlying t=some (.slice e)) (hk:∀ W,(sizeOf e).run P W=.ok k W) (hl:l≤u) (hu:u≤s.c) (K:next (a.put o.dst (s.cut k l u).v) W):o.wp P a W next Q:=by
 refine wp_run ?_ K
 unfold execOp
 rw [ho]
 simp only [hx,hy,hz,Option.map_some,Option.map_none,Sem.run_bind,run_cut ht hk s l u hl hu,Result.andThen]
 rfl
theorem wp_slcn (t e:TypeId) (k:Nat) (x y:Operand) (s:Sl) (l:Nat) (ho:o.op=.slice t x (some y) none none) (hx:a.eval x=s.v) (hy:a.eval y=.int .i64 (l:Int)) (ht:P.underlying t=some (.slice e)) (hk:∀ W,(sizeOf e).run P W=.ok k W) (hl:l≤s.n) (K:next (a.put o.dst (s.cut k l s.n).v) W):o.wp P a W next Q:=by
 refine wp_run ?_ K
 unfold execOp
 rw [ho]
 simp only [hx,hy,Option.map_some,Option.map_none,Sem.run_bind,run_cutn ht hk s l hl,Result.andThen]
 rfl
/-- A number of a list that was there. -/
theorem wp_ldn0 (T:TypeId) (p:Operand) (s:Sl) (i n:Nat) (x:Nat→Int) (ho:o.op=.load T p) (hp:a.eval p=s.at 2 i) (h:Ls n x s X W0) (hb:Below W0.heap.size W0 W) (hi:i < n) (hagg:∀ W,(isAgg T).run P W=.ok true W) (hn:∀ W,(sizeOf T).run P W=.ok 2 W) (k:∀ p:NL,p.z=x i→p.is X W0→next (a.put o.dst p.v) W):o.wp P a W next Q:=by
 obtain ⟨sa,sn,sc⟩:=s
 have hsn:sn=n:=h.n
 cases sa with
 | none=>have:=(h.sq.nil rfl).1; simp only at this; omega
 | some q =>
  obtain ⟨cs,h1,h2,p',h3,h4,rfl⟩:=h.sq.el q rfl i (by show i < sn; omega)
  obtain ⟨hq,hlt,_⟩:=h.sq.spot q rfl (by show 0 < sn; omega)
  obtain ⟨qb,qo,qs⟩:=q
  simp only at hq
  subst hq
  have hadd:(⟨qb,qo,none⟩:Addr).add (i*2)=⟨qb,qo+i*2,none⟩:=by unfold Addr.add; split <;> simp_all
  have hl:(loadCells ⟨qb,qo+i*2,none⟩ 2).run P W=.ok #[.bool p'.b,.slice p'.a p'.n p'.c] W:=run_loadCells_list (P:=P) W ⟨qb,qo+i*2,none⟩ [.bool p'.b,.slice p'.a p'.n p'.c] (fun j v hj=>by
   have hadd2:(⟨qb,qo+i*2,none⟩:Addr).add j=⟨qb,qo+i*2+j,none⟩:=by unfold Addr.add; split <;> simp_all
   have hj2:j < 2:=(List.getElem?_eq_some_iff.1 hj).1
   rw [hadd2,hb.cell (p:=⟨qb,qo+i*2+j,none⟩) hlt]
   exact (h2 j hj2).trans hj)
  refine wp_ldr (v:=p'.v) T p ho hp ?_ (k p' h3 h4)
  have hsa:(Instr.sureAddr (.pointer (some ⟨qb,qo+i*2,none⟩))).run P W=.ok ⟨qb,qo+i*2,none⟩ W:=rfl
  show (Instr.loadAt T (.pointer (some ((⟨qb,qo,none⟩:Addr).add (i*2))))).run P W=_
  rw [hadd]
  unfold Instr.loadAt loadVar
  simp only [Sem.run_bind,hsa,Result.andThen,hagg,hn,if_true,hl]
  rfl
end
/-- No cell of a row is a number of the language's. -/
def NoI (C:Array Value):Prop:=∀ (j:Nat) (k:IntKind) (n:Int),C[j]? ≠ some (.int k n)
theorem NoI.made {z:Array Value} (n:Nat) (hz:NoI z) (hs:0 < z.size):NoI (madeCells z n):=by
 intro j k m h
 unfold madeCells at h
 rw [Array.getElem?_map] at h
 cases e:(Array.range n)[j]? with
 | none=>rw [e] at h; cases h
 | some i =>
  rw [e] at h
  simp only [Option.map_some,Option.some.injEq] at h
  have hlt:i % z.size < z.size:=Nat.mod_lt _ hs
  rw [getElem!_pos z (i % z.size) hlt] at h
  exact hz (i % z.size) k m (by rw [Array.getElem?_eq_getElem hlt,h])
/-- A number does not lie where there is none of the language's numbers. -/
theorem NL.apart {p:NL} {X:Nat→Prop} {W:World} {b:Nat} {C:Array Value} {T:TypeId} (h:p.is (fun k=>X k∧k ≠ b) W) (hc:Cl W (b,C,T)) (hn:NoI C):p.is X W:=by
 refine ⟨h.1,fun q hq h0 hX=>?_⟩
 have hne:q.block=b:=Classical.byContradiction fun e=>h.2 q hq h0 ⟨hX,e⟩
 have h1:=h.1.lie.cell q hq 0 h0
 have hh:W.heap[b]?=some (.cells C T (0,0)):=hc
 rw [hne] at h1
 simp only [World.cell?,hh] at h1
 exact hn _ _ _ h1
/-- From place a on. -/
def Fg (k:Nat) (E:El) (a n:Nat) (C:Array Value):Fa:=fun X W=>∀ i,a≤i→i < n→∃ cs:List Value,cs.length=k∧(∀ j,j < k→C[i*k+j]?=cs[j]?)∧E X W i cs
theorem Fg.stb {k:Nat} {E:El} (hE:EStb E) (a n:Nat) (C:Array Value):Stb (Fg k E a n C):=fun X W X' W' he h i ha hi=>by
 obtain ⟨cs,h1,h2,h3⟩:=h i ha hi
 exact ⟨cs,h1,h2,hE i cs X W X' W' he h3⟩
theorem Fg.cons {k:Nat} {E:El} {a n:Nat} {C C':Array Value} {X:Nat→Prop} {W:World} (h:Fg k E (a+1) n C X W) {cs:List Value} (hk:cs.length=k) (ho:∀ j,(j < a*k∨a*k+k≤j)→C'[j]?=C[j]?) (hn:∀ j,j < k→C'[a*k+j]?=cs[j]?) (hE:E X W a cs):Fg k E a n C' X W:=by
 intro i ha hi
 by_cases e:i=a
 ·
  subst e; exact ⟨cs,hk,hn,hE⟩
 ·
  obtain ⟨ds,h1,h2,h3⟩:=h i (by omega) hi
  refine ⟨ds,h1,fun j hj=>?_,h3⟩
  rw [ho]
  ·
   exact h2 j hj
  ·
   have:(a+1)*k≤i*k:=Nat.mul_le_mul_right k (by omega)
   rw [Nat.add_mul] at this
   omega
/-- An own slice is told: what lies from place a on can be read, by one who does not write it. -/
theorem Zs.part {w W:World} {X0 X:Nat→Prop} {l:List (Nat × Array Value × TypeId)} {fs:List Fa} (h:Zs w W X0 X l fs) {b n c a:Nat} {x:Nat→Int} {C:Array Value} {T:TypeId} (hw:Wr 2 ⟨some ⟨b,0,none⟩,n,c⟩ C) (hm:(b,C,T) ∈ l) (hf:Fg 2 (EN x) a n C X W) (ha:a≤n):Ls (n - a) (fun j=>x (a+j)) ((⟨some ⟨b,0,none⟩,n,c⟩:Sl).cut 2 a n) (fun k=>X k∧k ≠ b) W:=by
 have hcap:n≤c:=hw.cap
 have hcm:c≤maxLen:=hw.capm
 have hsz:C.size=c*2:=hw.sz
 have hlt:=h.es.lt _ hm
 have hc:W.heap[b]?=some (.cells C T (0,0)):=h.es.at' _ hm
 have hbx:¬ (X b∧b ≠ b):=fun h=>h.2 rfl
 refine ⟨rfl,(by show n - a≤c - a; omega),(by show c - a≤maxLen; omega),?_,?_,?_⟩
 ·
  intro e
  unfold Sl.cut at e
  simp only at e
  split at e <;> cases e
 ·
  intro q hq _
  unfold Sl.cut at hq
  simp only at hq
  split at hq
  ·
   cases hq; exact ⟨rfl,hlt,hbx⟩
  ·
   have hadd:(⟨b,0,none⟩:Addr).add (a*2)=⟨b,a*2,none⟩:=by unfold Addr.add; split <;> simp_all
   simp only [Option.map_some,hadd,Option.some.injEq] at hq
   subst hq
   exact ⟨rfl,hlt,hbx⟩
 ·
  intro q hq i hi
  change i < n - a at hi
  unfold Sl.cut at hq
  simp only at hq
  split at hq
  ·
   omega
  ·
   have hadd:(⟨b,0,none⟩:Addr).add (a*2)=⟨b,a*2,none⟩:=by unfold Addr.add; split <;> simp_all
   simp only [Option.map_some,hadd,Option.some.injEq] at hq
   subst hq
   obtain ⟨cs,h1,h2,h3⟩:=hf (a+i) (by omega) (by omega)
   refine ⟨cs,h1,fun j hj=>?_,EN.stb x (a+i) cs _ _ _ _ (Ext.less W fun k hk=>hk.1) h3⟩
   rw [← h2 j hj]
   simp only
   rw [show a*2+i*2+j=(a+i)*2+j by omega]
   cases e:C[(a+i)*2+j]? with
   | some v=>simp [World.cell?,hc,e]
   | none =>
    exfalso
    have h4:=Array.getElem?_eq_none_iff.1 e
    omega
theorem NoI.put {k i:Nat} {C C':Array Value} {vs:List Value} (h:NoI C) (hg:∀ j,j < k→C'[i*k+j]?=vs[j]?) (ho:∀ j,(j < i*k∨i*k+k≤j)→C'[j]?=C[j]?) (hv:∀ (j:Nat) (q:IntKind) (n:Int),vs[j]? ≠ some (.int q n)):NoI C':=by
 intro j q n hc
 by_cases e:j < i*k∨i*k+k≤j
 ·
  rw [ho j e] at hc; exact h j q n hc
 ·
  have:=hg (j - i*k) (by omega)
  rw [show i*k+(j - i*k)=j by omega] at this
  rw [this] at hc
  exact hv _ q n hc
section
variable {P:Program} {ops:Array Oper} {Q:Exit→Act→World→Prop} {a:Act} {w W:World} {rest:List Oper} {o:Oper} {l:List (Nat × Array Value × TypeId)} {X0 X:Nat→Prop} {fs:List Fa}
theorem stopz_make' {t e:TypeId} {k by_:Nat} {z:Value} (hI:EInf P t e k z by_) (hzn:NoI z.cells) (x y:Operand) (n:Nat) (hg:o.guard=none) (ho:o.op=.makeSlice t x y) (hx:a.eval x=.int .i64 (n:Int)) (hy:a.eval y=.int .i64 (n:Int)) (hn:n≤1000000) (h:Zs w W X0 X l fs)
  (K:∀ (b:Nat) (C:Array Value) (X':Nat→Prop) (W':World),NoI C→Wr k ⟨some ⟨b,0,none⟩,n,n⟩ C→Zs w W' X0 X' ((b,C,e) :: l) fs→Stop (wpList P ops Q rest (a.put o.dst (Sl.v ⟨some ⟨b,0,none⟩,n,n⟩)) W')):wpList P ops Q (o :: rest) a W:=by
 refine wpList_plain hg fun K' hK=>?_
 obtain ⟨i,hi,hz,hs,hb⟩:=info_parts hI.hi
 have hr:=run_make (P:=P) W t e i z hI.ht hi hz .i64 .i64 (n:Int) (n:Int) (by omega) (Int.le_refl _) (by
  rw [hb]
  have:=hI.few
  have:=Nat.mul_le_mul this hn
  have e:((by_:Nat):Int)*(n:Int)=((by_*n:Nat):Int):=by rw [Int.natCast_mul]
  rw [e]
  omega) (by omega)
 rw [Int.toNat_natCast,hs] at hr
 have e1:(execOp a.eval o).run P W=.ok (.value (.slice (some ⟨W.heap.size,0,none⟩) n n)) (W.alloc (.cells (madeCells z.cells (n*k)) e)):=by
  unfold execOp
  rw [ho]
  simp only [hx,hy,Sem.run_bind,hr,Result.andThen]
  rfl
 unfold Oper.wp
 rw [e1]
 exact hK _ _ (K W.heap.size (madeCells z.cells (n*k)) _ _ (NoI.made _ hzn (by rw [hI.zs]; exact hI.pos)) ⟨Nat.le_refl _,(by show n≤maxLen; unfold maxLen; omega),size_madeCells _ _,.inr ⟨_,rfl⟩⟩ (h.new _ e))
end
open Classical in
/-- The text of a number. -/
noncomputable def decT (z:Int):List UInt8:=if h:∃ l,Txt z l then Classical.choose h else []
theorem decT_eq {z:Int} {l:List UInt8} (h:Txt z l):l=decT z:=by
 have hx:∃ l,Txt z l:=⟨l,h⟩
 unfold decT
 rw [dif_pos hx]
 exact txt_uniq h (Classical.choose_spec hx)
theorem txt_lenz {z:Int} {l:List UInt8} {e:Nat} (h:Txt z l) (hz:Sz e z):l.length≤10*e+2:=by
 have hz':z.natAbs < 10 ^ (10*e):=by
  refine Nat.lt_of_lt_of_le hz ?_
  rw [Nat.pow_mul]
  exact Nat.pow_le_pow_left (by decide) e
 rcases parts_of h.1 with ⟨rfl,h1⟩ | ⟨d,rfl,h0,hp,h1⟩ | ⟨d,rfl,h0,hp,h1⟩
 ·
  simp
 ·
  have a1:=dval_ge hp.dig hp.ne hp.head
  rw [h.2] at h1
  have h2:10 ^ (l.length - 1) < 10 ^ (10*e):=Nat.lt_of_le_of_lt a1 (by omega)
  have:=(Nat.pow_lt_pow_iff_right (by decide:1 < 10)).1 h2
  omega
 ·
  have a1:=dval_ge hp.dig hp.ne hp.head
  rw [h.2] at h1
  have h2:10 ^ (d.length - 1) < 10 ^ (10*e):=Nat.lt_of_le_of_lt a1 (by omega)
  have:=(Nat.pow_lt_pow_iff_right (by decide:1 < 10)).1 h2
  simp only [List.length_cons]
  omega
theorem decT_len {z:Int} {e:Nat} (hz:Sz e z):(decT z).length≤10*e+2:=by
 unfold decT
 split
 ·
  next h=>exact txt_lenz (Classical.choose_spec h) hz
 ·
  simp
/-- The text of n numbers; of rows. -/
noncomputable def txL:Nat→(Nat→Int)→List UInt8
 | 0,_=>[]
 | n+1,x=>txL n x++decT (x n)++[32]
noncomputable def whL:Nat→(Nat→Nat)→(Nat→Nat→Int)→List UInt8
 | 0,_,_=>[]
 | m+1,c,B=>whL m c B++txL (c m) (B m)++[59]
theorem txL_len {e:Nat} {x:Nat→Int}:∀ {n:Nat},(∀ k,k < n→Sz e (x k))→(txL n x).length≤n*(10*e+3)
 | 0,_=>by simp [txL]
 | n+1,h=>by
  have h1:=txL_len (n:=n) (fun k hk=>h k (by omega))
  have h2:=decT_len (h n (by omega))
  simp only [txL,List.length_append,List.length_singleton]
  rw [Nat.add_mul]
  omega
theorem whL_len {e:Nat} {c:Nat→Nat} {B:Nat→Nat→Int} {C:Nat}:∀ {m:Nat},(∀ i,i < m→c i≤C)→(∀ i k,i < m→k < c i→Sz e (B i k))→(whL m c B).length≤m*(C*(10*e+3)+1)
 | 0,_,_=>by simp [whL]
 | m+1,hc,h=>by
  have h1:=whL_len (m:=m) (fun i hi=>hc i (by omega)) (fun i k hi hk=>h i k (by omega) hk)
  have h2:=txL_len (n:=c m) (fun k hk=>h m k (by omega) hk)
  have h3:=Nat.mul_le_mul_right (10*e+3) (hc m (by omega))
  simp only [whL,List.length_append,List.length_singleton]
  rw [Nat.add_mul]
  omega
section
variable {Q:Exit→Act→World→Prop} {a:Act} {W:World} {o:Oper} {next:Act→World→Prop} {p q:List UInt8}
theorem wp_sadd (x y:Operand) (T T':TypeId) (hT:(T == 9)=true) (ho:o.op=.binOp .add T x y T') (hx:a.eval x=.string ⟨p.toArray⟩) (hy:a.eval y=.string ⟨q.toArray⟩) (hs:p.length+q.length≤9223372036854775807) (k:next (a.put o.dst (.string ⟨(p++q).toArray⟩)) W):o.wp Tryz.prog a W next Q:=by
 have:=eq_of_beq hT
 subst this
 refine wp_run ?_ k
 unfold execOp
 rw [ho]
 have hr:=run_string_add_sum (P:=Tryz.prog) (w:=W) ⟨p.toArray⟩ ⟨q.toArray⟩ (by simpa [ByteArray.size] using hs)
 rw [ByteArray.mk_append_mk] at hr
 simp only [hx,hy,Go.binOp_string_add,Sem.run_bind,hr,Result.andThen]
 unfold eqGuard
 simp [hr]
theorem wp_seql (x y:Operand) (T T':TypeId) (hT:(T == 9)=true) (ho:o.op=.binOp .eql T x y T') (hx:a.eval x=.string ⟨p.toArray⟩) (hy:a.eval y=.string ⟨q.toArray⟩) {r:Bool} (hr:decide (p=q)=r) (k:next (a.put o.dst (.bool r)) W):o.wp Tryz.prog a W next Q:=by
 have:=eq_of_beq hT
 subst this
 subst hr
 refine wp_run ?_ k
 unfold execOp
 rw [ho]
 simp only [hx,hy]
 simp [go_sem]
 by_cases e:p=q <;> simp [e]
end
theorem ei27:EInf Tryz.prog 27 30 2 (.agg #[.bool false,.slice none 0 0]) 32:=⟨by kernel_rfl,by kernel_rfl,by kernel_rfl,by decide,by decide⟩
theorem ei25:EInf Tryz.prog 25 27 1 (.slice none 0 0) 24:=⟨by kernel_rfl,by kernel_rfl,by kernel_rfl,by decide,by decide⟩
theorem ei26:EInf Tryz.prog 26 27 1 (.slice none 0 0) 24:=⟨by kernel_rfl,by kernel_rfl,by kernel_rfl,by decide,by decide⟩
/-- A function that tells a number of each place below n, in each world that keeps what was there. -/
def AtN (X:Nat→Prop) (w:World) (k:FuncId) (cs:Array Value) (n:Nat) (g:Nat→Int):Prop:=(∀ (args:Array Value) (W:World),(callFunc k args).run Tryz.prog W=.ok (.enter k args) W)∧∀ i,i < n→∀ (X':Nat→Prop) (W:World),NX X' W→Ext X w X' W→Below w.heap.size w W→Calls Tryz.prog k (#[.int .i64 ((i:Nat):Int)]++cs) W (PNX X' (g i) W)
def AtL (X:Nat→Prop) (w:World) (k:FuncId) (cs:Array Value) (n:Nat) (c:Nat→Nat) (g:Nat→Nat→Int):Prop:=(∀ (args:Array Value) (W:World),(callFunc k args).run Tryz.prog W=.ok (.enter k args) W)∧∀ i,i < n→∀ (X':Nat→Prop) (W:World),NX X' W→Ext X w X' W→Below w.heap.size w W→Calls Tryz.prog k (#[.int .i64 ((i:Nat):Int)]++cs) W (PLX X' (c i) (g i) W)
set_option maxRecDepth 100000 in
set_option maxHeartbeats 12800000 in
theorem lMadeN {X0:Nat→Prop} {w:World} (hX:NX X0 w) (n:Nat) (k:FuncId) (cs:Array Value) (g:Nat→Int) (hn:n≤1000) (hf0:AtN X0 w k cs n g):Calls Tryz.prog 79 #[.int .i64 ((n:Nat):Int),.func (.func k) #[] cs] w (PLX X0 n g w):=by
 have hf:Hid (AtN X0 w k cs n g):=hf0
 clear hf0
 have hZ0:=zs_start hX
 go_enter Tryz.func79,Tryz.ntmps79
 go_wp2_with (refine stopz_make ei27 (.tmp 7) (.tmp 7) n rfl rfl rfl rfl (by omega) hZ0 (fun o1 C1 X1 W1 hn_o1 hw_o1 hZ1x=>?_))
 have hZ1:=hZ1x.perm (List.perm_append_comm (l₂:=[]))
 clear hZ1x hZ0
 simp only [Stop,Act.put,zzC,zzD,zzE]
 go_wp2_with (refine zso rfl (fun K hK=>wp_lenq (.tmp 9) 27 30 o1 rfl (by kernel_rfl) rfl hn_o1 (hK _ _ ?_)))
 simp only [Stop,Act.put,zzC,zzD,zzE]
 go_wp2
 go_loopw [11] (fun iv wr=>∃ i:Nat,i≤n∧iv=.int .i64 ((i:Nat):Int)∧∃ (C:Array Value) (X:Nat→Prop),Wr 2 o1 C∧Zs w wr X0 X ([]++owl o1 C 30) [Fl 2 (EN g) i C]) (fun iv _=>n - (intOf iv).toNat)
 case atStart=>exact ⟨0,by omega,rfl,C1,_,hw_o1,hZ1.more (Fl.stb (EN.stb g) _ _) (fl_zero _ _ _ _ _)⟩
 case round =>
  clear hw_o1
  obtain ⟨i,hi,rfl,C,X,hw_o1,hZ⟩:=hrel
  by_cases hlt:i < n
  ·
   go_wp2_with (refine zso rfl (fun K hK=>wp_lssi (.tmp 11) (.tmp 10) rfl rfl rfl (r:=true) (decide_eq_true (by omega)) (hK _ _ ?_)))
   simp only [Stop,Act.put,zzC,zzD,zzE]
   go_wp2_with (refine zso rfl (fun K hK=>zcz (.tmp 16) #[.tmp 17] #[3] k cs #[.int .i64 (((i:Nat):Int))] _ rfl rfl (map1 rfl) rfl hf.out.1 (hf.out.2 i (by omega) _ _ hZ.nx hZ.ext hZ.below) (fun zz W2=>?_)))
   rintro ⟨q2,rfl,ez_q2,hi_q2,hB⟩
   refine ⟨_,rfl,hK _ _ ?_⟩
   have hZ2:=hZ.later hB
   clear hB
   simp only [Stop,Act.put,zzC,zzD,zzE]
   clear hZ
   have hZ3:=hZ2.more (f:=q2.is) q2.stb hi_q2
   clear hZ2 hi_q2
   go_wp2_with (refine zso rfl (fun K hK=>wp_ixs 27 (.tmp 14) (.tmp 15) o1 i 2 30 rfl rfl rfl (by kernel_rfl) sz30 hw_o1.nil (by rw [hn_o1]; omega) (hK _ _ ?_)))
   simp only [Stop,Act.put,zzC,zzD,zzE]
   have hZ4y:=hZ3.perm List.perm_append_comm
   go_wp2_with (refine stopz_put 30 (.tmp 19) (.tmp 18) o1 C i [.bool q2.b,.slice q2.a q2.n q2.c] rfl rfl rfl rfl sz30 rfl (by kernel_rfl) hw_o1 (by rw [hn_o1]; omega) hZ4y (fun C3 W3 hw_o1n hg_C3 ho_C3 hZ4x=>?_))
   clear hZ4y hw_o1
   have hw_o1:=hw_o1n
   clear hw_o1n
   have hZ4:=hZ4x.perm List.perm_append_comm
   clear hZ4x hZ3
   simp only [Stop,Act.put,zzC,zzD,zzE]
   go_wp2_with (refine zso rfl (fun K hK=>wp_addi (.tmp 11) (.const (.int .i64 1)) rfl rfl rfl (C:=((i+1:Nat):Int)) (by omega) (by omega) (by omega) (hK _ _ ?_)))
   simp only [Stop,Act.put,zzC,zzD,zzE]
   have hZ5s:Fl 2 (EN g) (i+1) C3 X W3:=Fl.snoc (C:=C) (hZ4.get 1 (f:=Fl 2 (EN g) i C) rfl) rfl (fun j hj=>ho_C3 j (.inl hj)) hg_C3 ⟨q2,ez_q2,hZ4.get 0 (f:=q2.is) rfl,rfl⟩
   have hZ5:=(hZ4.more (Fl.stb (EN.stb g) _ _) hZ5s).only [Fl 2 (EN g) (i+1) C3] (by simp)
   clear hZ4 hZ5s
   go_wp2
   go_roundw
   case rel=>exact ⟨i+1,by omega,by go_num,C3,_,hw_o1,hZ5⟩
   case measure=>simp [intOf]; omega
  ·
   obtain rfl:i=n:=by omega
   go_wp2_with (refine zso rfl (fun K hK=>wp_lssi (.tmp 11) (.tmp 10) rfl rfl rfl (r:=false) (decide_eq_false (Int.lt_irrefl _)) (hK _ _ ?_)))
   simp only [Stop,Act.put,zzC,zzD,zzE]
   go_wp2
   go_ret
   exact ⟨o1,rfl,⟨hn_o1,hZ.sq hX (EN.stb g) hw_o1 (fun p hp=>List.mem_append_right _ hp) (hn_o1 ▸ hZ.get 0 (f:=Fl 2 (EN g) i C) rfl)⟩,hZ.below⟩
set_option maxRecDepth 100000 in
set_option maxHeartbeats 12800000 in
theorem lMadeL {X0:Nat→Prop} {w:World} (hX:NX X0 w) (n:Nat) (k:FuncId) (cs:Array Value) (c:Nat→Nat) (g:Nat→Nat→Int) (hn:n≤1000) (hf0:AtL X0 w k cs n c g):Calls Tryz.prog 85 #[.int .i64 ((n:Nat):Int),.func (.func k) #[] cs] w (PMX X0 n c g w):=by
 have hf:Hid (AtL X0 w k cs n c g):=hf0
 clear hf0
 have hZ0:=zs_start hX
 go_enter Tryz.func85,Tryz.ntmps85
 go_wp2_with (refine stopz_make ei25 (.tmp 7) (.tmp 7) n rfl rfl rfl rfl (by omega) hZ0 (fun o1 C1 X1 W1 hn_o1 hw_o1 hZ1x=>?_))
 have hZ1:=hZ1x.perm (List.perm_append_comm (l₂:=[]))
 clear hZ1x hZ0
 simp only [Stop,Act.put,zzC,zzD,zzE]
 go_wp2_with (refine zso rfl (fun K hK=>wp_lenq (.tmp 9) 25 27 o1 rfl (by kernel_rfl) rfl hn_o1 (hK _ _ ?_)))
 simp only [Stop,Act.put,zzC,zzD,zzE]
 go_wp2
 go_loopw [11] (fun iv wr=>∃ i:Nat,i≤n∧iv=.int .i64 ((i:Nat):Int)∧∃ (C:Array Value) (X:Nat→Prop),Wr 1 o1 C∧Zs w wr X0 X ([]++owl o1 C 27) [Fl 1 (ER c g) i C]) (fun iv _=>n - (intOf iv).toNat)
 case atStart=>exact ⟨0,by omega,rfl,C1,_,hw_o1,hZ1.more (Fl.stb (ER.stb c g) _ _) (fl_zero _ _ _ _ _)⟩
 case round =>
  clear hw_o1
  obtain ⟨i,hi,rfl,C,X,hw_o1,hZ⟩:=hrel
  by_cases hlt:i < n
  ·
   go_wp2_with (refine zso rfl (fun K hK=>wp_lssi (.tmp 11) (.tmp 10) rfl rfl rfl (r:=true) (decide_eq_true (by omega)) (hK _ _ ?_)))
   simp only [Stop,Act.put,zzC,zzD,zzE]
   go_wp2_with (refine zso rfl (fun K hK=>zcz (.tmp 16) #[.tmp 17] #[3] k cs #[.int .i64 (((i:Nat):Int))] _ rfl rfl (map1 rfl) rfl hf.out.1 (hf.out.2 i (by omega) _ _ hZ.nx hZ.ext hZ.below) (fun zz W2=>?_)))
   rintro ⟨s2,rfl,hi_s2,hB⟩
   refine ⟨_,rfl,hK _ _ ?_⟩
   have hZ2:=hZ.later hB
   clear hB
   simp only [Stop,Act.put,zzC,zzD,zzE]
   clear hZ
   have hZ3:=hZ2.more (f:=Ls (c i) (g i) s2) (Ls.stb _ _ _) hi_s2
   clear hZ2 hi_s2
   go_wp2_with (refine zso rfl (fun K hK=>wp_ixs 25 (.tmp 14) (.tmp 15) o1 i 1 27 rfl rfl rfl (by kernel_rfl) sz27 hw_o1.nil (by rw [hn_o1]; omega) (hK _ _ ?_)))
   simp only [Stop,Act.put,zzC,zzD,zzE]
   have hZ4y:=hZ3.perm List.perm_append_comm
   go_wp2_with (refine stopz_put 27 (.tmp 19) (.tmp 18) o1 C i [s2.v] rfl rfl rfl rfl sz27 rfl (by kernel_rfl) hw_o1 (by rw [hn_o1]; omega) hZ4y (fun C3 W3 hw_o1n hg_C3 ho_C3 hZ4x=>?_))
   clear hZ4y hw_o1
   have hw_o1:=hw_o1n
   clear hw_o1n
   have hZ4:=hZ4x.perm List.perm_append_comm
   clear hZ4x hZ3
   simp only [Stop,Act.put,zzC,zzD,zzE]
   go_wp2_with (refine zso rfl (fun K hK=>wp_addi (.tmp 11) (.const (.int .i64 1)) rfl rfl rfl (C:=((i+1:Nat):Int)) (by omega) (by omega) (by omega) (hK _ _ ?_)))
   simp only [Stop,Act.put,zzC,zzD,zzE]
   have hZ5s:Fl 1 (ER c g) (i+1) C3 X W3:=Fl.snoc (C:=C) (hZ4.get 1 (f:=Fl 1 (ER c g) i C) rfl) rfl (fun j hj=>ho_C3 j (.inl hj)) hg_C3 ⟨s2,hZ4.get 0 (f:=Ls (c i) (g i) s2) rfl,rfl⟩
   have hZ5:=(hZ4.more (Fl.stb (ER.stb c g) _ _) hZ5s).only [Fl 1 (ER c g) (i+1) C3] (by simp)
   clear hZ4 hZ5s
   go_wp2
   go_roundw
   case rel=>exact ⟨i+1,by omega,by go_num,C3,_,hw_o1,hZ5⟩
   case measure=>simp [intOf]; omega
  ·
   obtain rfl:i=n:=by omega
   go_wp2_with (refine zso rfl (fun K hK=>wp_lssi (.tmp 11) (.tmp 10) rfl rfl rfl (r:=false) (decide_eq_false (Int.lt_irrefl _)) (hK _ _ ?_)))
   simp only [Stop,Act.put,zzC,zzD,zzE]
   go_wp2
   go_ret
   exact ⟨o1,rfl,⟨hn_o1,hZ.sq hX (ER.stb c g) hw_o1 (fun p hp=>List.mem_append_right _ hp) (hn_o1 ▸ hZ.get 0 (f:=Fl 1 (ER c g) i C) rfl)⟩,hZ.below⟩
theorem ptxt_dec {z:Int} {w w':World} {e:Ending} (h:PTxt z w e w'):PVal (.string ⟨(decT z).toArray⟩) w e w':=by
 obtain ⟨l,rfl,h1,h2⟩:=h
 exact ⟨by rw [← decT_eq h1],h2⟩
end Go.Proofs.YtjclllindbfmhabGreatDoor
