/- Parts of the proof. -/
import Derived.StillTail
import Derived.Deep.RegionHeld3
import Derived.KernelRfl
set_option linter.unusedSimpArgs false
set_option linter.unusedVariables false
/- A law for regions that draw their order: a head whose operations may come in any order, each shown once under an invariant that says what has been done, and a tail in one order. No statement of the seat is proved here. -/
namespace Go.Proofs.YtcoenncgoepadaaDoor
open Go
section
variable {P:Program} {ops:Array Oper} {md:Region.Mode}
/-- Heads wait for what stands ahead of them alone; each operation of the tail waits for all ahead of it; behind the head the tail goes in its order. -/
def tailsB (md:Region.Mode) (ops:Array Oper) (n:Nat):Bool :=
 decide (n≤ops.size) &&
 ((List.range n).all fun i=>match ops[i]? with
  | some o=>o.after.all fun e=>!Region.binds md e || decide (e.on < i)
  | none=>false) &&
 ((List.range ops.size).all fun j=>decide (j < n) || (List.range n).all fun i=>Region.waitsFor md ops j i) &&
 Region.seqB md ops (ops.size - n) n (Array.replicate n true++Array.replicate (ops.size - n) false)
/-- What has been done, and i. -/
def upd (L:Nat→Bool) (i:Nat):Nat→Bool:=fun j=>if j=i then true else L j
theorem upd_ne {L:Nat→Bool} {i j:Nat} (h:j ≠ i):upd L i j=L j:=by simp [upd,h]
theorem getD_upd {listed:Array Bool} {i:Nat} (hi:i < listed.size):(fun j=>(listed.setIfInBounds i true).getD j false)=upd (fun j=>listed.getD j false) i:=by
 funext j
 unfold upd
 by_cases h:j=i
 ·
  subst h; simp [hi]
 ·
  rw [if_neg h]; exact getD_set_ne false (fun e=>h e.symm)
/-- How many of the first n are not listed. -/
def unl (listed:Array Bool) (n:Nat):Nat:=((List.range n).filter fun i=>!listed.getD i false).length
theorem unl_set {listed:Array Bool} {n i:Nat} (hi:i < n) (hs:n≤listed.size) (hu:listed.getD i false=false):unl listed n=unl (listed.setIfInBounds i true) n+1:=by
 unfold unl
 induction n with
 | zero=>omega
 | succ n ih =>
  rw [List.range_succ,List.filter_append,List.filter_append,List.length_append,List.length_append]
  by_cases h:i=n
  ·
   subst h
   have e1:(List.range i).filter (fun j=>!listed.getD j false)=(List.range i).filter (fun j=>!(listed.setIfInBounds i true).getD j false):=by
    refine List.filter_congr fun j hj=>?_
    rw [getD_set_ne false (by have:=List.mem_range.1 hj; omega)]
   have e2:(listed.setIfInBounds i true).getD i false=true:=by simp [show i < listed.size by omega]
   rw [e1]
   simp only [List.filter_cons,List.filter_nil,hu,e2]
   simp
  ·
   have:=ih (by omega) (by omega)
   rw [this]
   have e3:(listed.setIfInBounds i true).getD n false=listed.getD n false:=getD_set_ne false h
   simp only [List.filter_cons,List.filter_nil,e3]
   omega
theorem unl_zero {listed:Array Bool} {n:Nat} (h:unl listed n=0):∀ i,i < n→listed.getD i false=true:=by
 intro i hi
 unfold unl at h
 have h1:=List.filter_eq_nil_iff.1 (List.eq_nil_of_length_eq_zero h) i (List.mem_range.2 hi)
 simpa using h1
theorem unl_pos {listed:Array Bool} {n:Nat} (h:0 < unl listed n):∃ i,i < n∧listed.getD i false=false∧∀ j,j < i→listed.getD j false=true:=by
 induction n with
 | zero=>simp [unl] at h
 | succ n ih =>
  by_cases h0:0 < unl listed n
  ·
   obtain ⟨i,h1,h2,h3⟩:=ih h0
   exact ⟨i,by omega,h2,h3⟩
  ·
   have hz:=unl_zero (listed:=listed) (n:=n) (by omega)
   refine ⟨n,by omega,?_,hz⟩
   cases hl:listed.getD n false with
   | false=>rfl
   | true =>
    exfalso
    have e:unl listed (n+1)=unl listed n:=by
     unfold unl
     rw [List.range_succ,List.filter_append,List.length_append]
     simp only [List.filter_cons,List.filter_nil,hl]
     simp
    omega
end
end Go.Proofs.YtcoenncgoepadaaDoor

/- A law for regions that draw their order and whose operations' values are known ahead: each operation is shown once; what the world keeps is one invariant. No statement of the seat is proved here. -/
namespace Go.Proofs.YtcoenncgoepadaaDoor
open Go
/-- A frame with the region's slots laid in. -/
def layS (a:Act):List (Option Tmp)→(Nat→Value)→Nat→Act
 | [],_,_=>a
 | d :: ds,u,k=>layS (a.put d (u k)) ds u (k+1)
def updV (u:Nat→Value) (i:Nat) (v:Value):Nat→Value:=fun j=>if j=i then v else u j
def lstV (vs:List Value) (k:Nat):Value:=vs.getD k undef
theorem put_self (a:Act) (d:Option Tmp):a.put d ((d.map fun t=>a.tmps.getD t undef).getD undef)=a:=by
 cases d with
 | none=>rfl
 | some t =>
  obtain ⟨tmps,defers⟩:=a
  simp only [Act.put,Option.map_some,Option.getD_some,Act.mk.injEq,and_true]
  apply Array.ext
  ·
   simp
  ·
   intro i h1 h2
   by_cases h:t=i
   ·
    subst h; simp [h2]
   ·
    rw [Array.getElem_setIfInBounds h2,if_neg h]
theorem layS_self (a:Act):∀ (ds:List (Option Tmp)) (u:Nat→Value) (k:Nat),(∀ j d,ds[j]?=some d→u (k+j)=(d.map fun t=>a.tmps.getD t undef).getD undef)→layS a ds u k=a:=by
 intro ds
 induction ds with
 | nil=>intro u k _; rfl
 | cons d ds ih =>
  intro u k h
  have h0:=h 0 d rfl
  rw [Nat.add_zero] at h0
  show layS (a.put d (u k)) ds u (k+1)=a
  rw [h0,put_self]
  exact ih u (k+1) (fun j d' hj=>by rw [Nat.add_assoc,Nat.add_comm 1 j]; exact h (j+1) d' (by simpa using hj))
theorem layS_congr:∀ (ds:List (Option Tmp)) (a:Act) (u v:Nat→Value) (k:Nat),(∀ j,j < ds.length→u (k+j)=v (k+j))→layS a ds u k=layS a ds v k:=by
 intro ds
 induction ds with
 | nil=>intro a u v k _; rfl
 | cons d ds ih =>
  intro a u v k h
  show layS (a.put d (u k)) ds u (k+1)=layS (a.put d (v k)) ds v (k+1)
  have h0:=h 0 (by simp)
  rw [Nat.add_zero] at h0
  rw [h0]
  exact ih _ u v (k+1) (fun j hj=>by rw [Nat.add_assoc,Nat.add_comm 1 j]; exact h (j+1) (by simpa using hj))
section
variable {P:Program} {ops:Array Oper} {md:Region.Mode}
/-- Does operation j wait for i, or for what waits for it? -/
def waitsB (md:Region.Mode) (ops:Array Oper):Nat→Nat→Nat→Bool
 | 0,j,i=>Region.waitsFor md ops j i
 | f+1,j,i=>Region.waitsFor md ops j i || (List.range ops.size).any fun k=>Region.waitsFor md ops j k && waitsB md ops f k i
theorem waitsB_done {L:Nat→Bool} (hc:∀ k j,L k=true→Region.waitsFor md ops k j=true→L j=true):∀ (f j i:Nat),(∀ k,Region.waitsFor md ops j k=true→L k=true)→waitsB md ops f j i=true→L i=true:=by
 intro f
 induction f with
 | zero=>intro j i h hw; exact h i hw
 | succ f ih =>
  intro j i h hw
  unfold waitsB at hw
  rw [Bool.or_eq_true] at hw
  rcases hw with h0 | h0
  ·
   exact h i h0
  ·
   obtain ⟨k,_,hk⟩:=List.any_eq_true.1 h0
   simp only [Bool.and_eq_true] at hk
   exact ih k i (fun m hm=>hc k m (h k hk.1) hm) hk.2
/-- As tailsB; but the tail may wait for the head through others. -/
def tailsB2 (md:Region.Mode) (ops:Array Oper) (n:Nat):Bool :=
 decide (n≤ops.size) &&
 ((List.range n).all fun i=>match ops[i]? with
  | some o=>o.after.all fun e=>!Region.binds md e || decide (e.on < i)
  | none=>false) &&
 ((List.range ops.size).all fun j=>decide (j < n) || (List.range n).all fun i=>waitsB md ops 3 j i) &&
 Region.seqB md ops (ops.size - n) n (Array.replicate n true++Array.replicate (ops.size - n) false)
theorem wpAny_inv2 {Q:Exit→Act→World→Prop} {n:Nat} {I:(Nat→Bool)→Act→World→Prop} {l:List Oper} (hl:l.toArray=ops) (hB:tailsB2 md ops n=true)
  (step:∀ L a w i,i < n→I L a w→L i=false→(∀ j,Region.waitsFor md ops i j=true→L j=true)→wpOp P ops Q i (I (upd L i)) a w)
  (fin:∀ a w,(∃ L,(∀ j,j < n→L j=true)∧I L a w)→wpList P ops Q (l.drop n) a w) :
  ∀ (f:Nat) (listed:Array Bool) (a:Act) (w:World),listed.size=ops.size→(∀ t,n≤t→listed.getD t false=false)→unl listed n=f→(∀ k j,listed.getD k false=true→Region.waitsFor md ops k j=true→listed.getD j false=true)→I (fun j=>listed.getD j false) a w →
   wpAny P md ops Q (f+(ops.size - n)) listed a w:=by
 unfold tailsB2 at hB
 simp only [Bool.and_eq_true,decide_eq_true_eq] at hB
 obtain ⟨⟨⟨hn,hhead⟩,htail⟩,hseq⟩:=hB
 have hdl:(l.drop n).length=ops.size - n:=by rw [← hl]; simp
 intro f
 induction f with
 | zero =>
  intro listed a w hs ht hu hcl hI
  have hz:=unl_zero hu
  have e:listed=Array.replicate n true++Array.replicate (ops.size - n) false:=by
   apply Array.ext
   ·
    simp; omega
   ·
    intro i h1 h2
    have hg:listed[i]=listed.getD i false:=by simp [h1]
    rw [hg]
    by_cases hi:i < n
    ·
     rw [hz i hi,Array.getElem_append_left (by simpa using hi)]; simp
    ·
     rw [ht i (by omega),Array.getElem_append_right (by simpa using hi)]; simp
  rw [Nat.zero_add]
  have:=wpAny_of_seq (P:=P) (md:=md) (ops:=ops) (Q':=Q) (l.drop n) n listed a w (fun j=>by rw [← hl]; simp [List.getElem?_drop]) (by rw [hdl,e]; exact hseq) (fin a w ⟨_,hz,hI⟩)
  rwa [hdl] at this
 | succ f ih =>
  intro listed a w hs ht hu hcl hI
  obtain ⟨i0,hi0,hi0u,hi0l⟩:=unl_pos (listed:=listed) (n:=n) (by omega)
  have hne:Region.ready md ops listed ≠ []:=by
   intro h0
   have hm:i0 ∈ Region.ready md ops listed:=by
    have h1:=List.all_eq_true.1 hhead i0 (List.mem_range.2 hi0)
    have hlt:i0 < ops.size:=by omega
    rw [Array.getElem?_eq_getElem hlt] at h1
    refine mem_ready.2 ⟨getD_in (by omega) hi0u,ops[i0],Array.getElem?_eq_getElem hlt,fun e he hb=>?_⟩
    have h2:=Array.all_eq_true'.1 h1 e he
    simp only [hb,Bool.not_true,Bool.false_or,decide_eq_true_eq] at h2
    exact hi0l _ h2
   rw [h0] at hm; cases hm
  rw [show f+1+(ops.size - n)=(f+(ops.size - n))+1 by omega]
  refine ⟨fun h0=>absurd h0 hne,fun i hi=>?_⟩
  obtain ⟨hiu,oi,hoi,hall⟩:=mem_ready.1 hi
  have hilt:i < ops.size:=(Array.getElem?_eq_some_iff.1 hoi).1
  have hiu':=getD_both hiu
  have hin:i < n:=by
   rcases Nat.lt_or_ge i n with h | h
   ·
    exact h
   ·
    exfalso
    have h1:=List.all_eq_true.1 htail i (List.mem_range.2 hilt)
    simp only [Bool.or_eq_true,decide_eq_true_eq] at h1
    rcases h1 with h1 | h1
    ·
     omega
    ·
     have h2:=List.all_eq_true.1 h1 i0 (List.mem_range.2 hi0)
     have h3:=waitsB_done (L:=fun j=>listed.getD j false) hcl 3 i i0 (fun k hk=>by
      obtain ⟨o',ho',e,he,hb,hon⟩:=Region.waitsFor_spec hk
      have:o'=oi:=Option.some.inj (ho'.symm.trans hoi)
      subst this
      show listed.getD k false=true
      rw [← hon]; exact hall e he hb) h2
     change listed.getD i0 false=true at h3
     rw [hi0u] at h3; cases h3
  have hst:=step _ a w i hin hI hiu' (fun j hj=>by
   obtain ⟨o',ho',e,he,hb,hon⟩:=Region.waitsFor_spec hj
   have:o'=oi:=Option.some.inj (ho'.symm.trans hoi)
   subst this
   rw [← hon]; exact hall e he hb)
  refine wpOp_mono (fun a' w' h'=>?_) hst
  refine ih (listed.setIfInBounds i true) a' w' (by simp [hs]) (fun t h=>by rw [getD_set_ne false (by omega)]; exact ht t h) ?_ ?_ ?_
  ·
   have:=unl_set hin (by omega) hiu'; omega
  ·
   intro k j hk hw
   have hkl:listed.getD k false=true∨k=i:=by
    by_cases e:k=i
    ·
     exact .inr e
    ·
     rw [getD_set_ne false (fun x=>e x.symm)] at hk; exact .inl hk
   have hj:listed.getD j false=true:=by
    rcases hkl with h | rfl
    ·
     exact hcl k j h hw
    ·
     obtain ⟨o',ho',e,he,hb,hon⟩:=Region.waitsFor_spec hw
     have:o'=oi:=Option.some.inj (ho'.symm.trans hoi)
     subst this
     rw [← hon]; exact hall e he hb
   by_cases e:j=i
   ·
    subst e; simp [show j < listed.size by omega]
   ·
    rw [getD_set_ne false (fun x=>e x.symm)]; exact hj
  ·
   rw [getD_upd (by omega)]; exact h'
theorem wp_region_inv2 {Q:Exit→Act→World→Prop} {id:Nat} {a:Act} {w:World} {l:List Oper} (n:Nat) (I:(Nat→Bool)→Act→World→Prop) (hm:P.follows .mixedOrders=true) (hB:tailsB2 .any l.toArray n=true)
  (h0:I (fun _=>false) a w.drew)
  (step:∀ L a w i,i < n→I L a w→L i=false→(∀ j,Region.waitsFor .any l.toArray i j=true→L j=true)→wpOp P l.toArray Q i (I (upd L i)) a w)
  (fin:∀ a w,(∃ L,(∀ j,j < n→L j=true)∧I L a w)→wpList P l.toArray Q (l.drop n) a w):(Code.region id l.toArray true).wp P Q a w:=by
 refine wp_region_any hm ?_
 have hB':=hB
 unfold tailsB2 at hB'
 simp only [Bool.and_eq_true,decide_eq_true_eq] at hB'
 have hn:=hB'.1.1.1
 have hu:unl (Array.replicate l.toArray.size false) n=n:=by
  unfold unl
  rw [List.filter_eq_self.2 (fun i _=>by rw [getD_replicate_false]; rfl),List.length_range]
 have:=wpAny_inv2 (P:=P) (md:=.any) (Q:=Q) (n:=n) (I:=I) (l:=l) rfl hB step fin n (Array.replicate l.toArray.size false) a w.drew (by simp) (fun t _=>getD_replicate_false _ _) hu (fun k j hk=>by rw [getD_replicate_false] at hk; cases hk) (by
  rw [show (fun j=>(Array.replicate l.toArray.size false).getD j false)=fun _=>false from funext fun j=>getD_replicate_false _ _]; exact h0)
 rwa [show n+(l.toArray.size - n)=l.toArray.size by omega] at this
end
section
variable {P:Program}
/-- What is to be shown of an operation of such a region: it is skipped, or it runs and gives its value. -/
def OpV (P:Program) (Q:Exit→Act→World→Prop) (o:Oper) (ops:Array Oper) (a:Act) (ds:List (Option Tmp)) (V:Nat→Value) (J:World→Prop) (i:Nat) (u:Nat→Value) (W:World):Prop :=
 (Region.wanted o (yielded ops (layS a ds u 0).tmps)=false∧(layS a ds u 0).put o.dst undef=layS a ds (updV u i (V i)) 0) ∨
 (Region.wanted o (yielded ops (layS a ds u 0).tmps)=true∧∀ K':Act→World→Prop,(∀ a' W',a'=layS a ds (updV u i (V i)) 0→J W'→K' a' W')→Oper.wp P o (layS a ds u 0) W K' Q)
theorem opV_step {Q:Exit→Act→World→Prop} {l:List Oper} {a:Act} {ds:List (Option Tmp)} {V:Nat→Value} {J:World→Prop} {i:Nat} {u:Nat→Value} {W:World} (hi:i < l.length) (hJ:J W) (h:OpV P Q l[i] l.toArray a ds V J i u W) :
  wpOp P l.toArray Q i (fun a' W'=>a'=layS a ds (updV u i (V i)) 0∧J W') (layS a ds u 0) W:=by
 refine wpOp_step (o:=l[i]) (by simp [hi]) (fun K' hK=>?_)
 rcases h with ⟨h1,h2⟩ | ⟨h1,h2⟩
 ·
  rw [if_neg (by rw [h1]; decide),h2]
  exact hK _ _ ⟨rfl,hJ⟩
 ·
  rw [if_pos h1]
  exact h2 K' (fun a' W' e hj=>hK _ _ ⟨e,hj⟩)
/-- The first n operations may come in any order, their values known ahead; the others come behind them, in one order. -/
theorem wp_region_vals {Q:Exit→Act→World→Prop} {id:Nat} {a:Act} {w:World} {l:List Oper} (n:Nat) (ds:List (Option Tmp)) (V:Nat→Value) (J:World→Prop) (hm:P.follows .mixedOrders=true) (hB:tailsB2 .any l.toArray n=true) (hn:ds.length≤n)
  (h0:J w.drew)
  (step:∀ i (hi:i < l.length),i < n→∀ (u:Nat→Value) (W:World),J W→(∀ j,Region.waitsFor .any l.toArray i j=true→u j=V j)→OpV P Q l[i] l.toArray a ds V J i u W)
  (fin:∀ W,J W→wpList P l.toArray Q (l.drop n) (layS a ds V 0) W):(Code.region id l.toArray true).wp P Q a w:=by
 have hl:n≤l.length:=by
  have hB':=hB
  unfold tailsB2 at hB'
  simp only [Bool.and_eq_true,decide_eq_true_eq] at hB'
  simpa using hB'.1.1.1
 refine wp_region_inv2 n (fun L a' W=>J W∧∃ u:Nat→Value,(∀ j,L j=true→u j=V j)∧a'=layS a ds u 0) hm hB ⟨h0,fun k=>((ds.getD k none).map fun t=>a.tmps.getD t undef).getD undef,nofun,?_⟩ ?_ ?_
 ·
  refine (layS_self a ds _ 0 (fun j d hj=>?_)).symm
  have:ds.getD (0+j) none=d:=by rw [Nat.zero_add,List.getD_eq_getElem?_getD,hj]; rfl
  rw [this]
 ·
  rintro L a' W i hi ⟨hJ,u,hu,rfl⟩ _ hw
  refine wpOp_mono ?_ (opV_step (Nat.lt_of_lt_of_le hi hl) hJ (step i (Nat.lt_of_lt_of_le hi hl) hi u W hJ (fun j hj=>hu j (hw j hj))))
  rintro a' W' ⟨rfl,hJ'⟩
  refine ⟨hJ',updV u i (V i),fun j hj=>?_,rfl⟩
  unfold updV
  by_cases h:j=i
  ·
   rw [if_pos h,h]
  ·
   rw [if_neg h]
   exact hu j (by rw [upd_ne h] at hj; exact hj)
 ·
  rintro a' W ⟨L,hL,hJ,u,hu,rfl⟩
  rw [layS_congr ds a u V 0 (fun j hj=>by rw [Nat.zero_add]; exact hu j (hL j (by omega)))]
  exact fin W hJ
end
end Go.Proofs.YtcoenncgoepadaaDoor
