/- Parts of the proof. -/
import Derived.Test.YtjclllindbfmhaaGreatDoorHj0
import Derived.Test.YtjclllindbfmhaaGreatDoorHj28
set_option linter.unusedSimpArgs false
set_option linter.unusedVariables false
namespace Go.Proofs.YtjclllindbfmhaaGreatDoor
/- A region that draws its order, whose tail waits for its head through many others. No statement of the seat is proved here. -/
open Go Go.RowKit
section
variable {P:Program} {ops:Array Oper} {md:Region.Mode}
/-- As tailsB; but the tail may wait for the head through others. -/
def tailsB4 (md:Region.Mode) (ops:Array Oper) (n:Nat):Bool :=
 decide (n≤ops.size) &&
 ((List.range n).all fun i=>match ops[i]? with
  | some o=>o.after.all fun e=>!Region.binds md e || decide (e.on < i)
  | none=>false) &&
 ((List.range ops.size).all fun j=>decide (j < n) || (List.range n).all fun i=>waitsB md ops 9 j i) &&
 Region.seqB md ops (ops.size - n) n (Array.replicate n true++Array.replicate (ops.size - n) false)
theorem wpAny_inv4 {Q:Exit→Act→World→Prop} {n:Nat} {I:(Nat→Bool)→Act→World→Prop} {l:List Oper} (hl:l.toArray=ops) (hB:tailsB4 md ops n=true)
  (step:∀ L a w i,i < n→I L a w→L i=false→(∀ j,Region.waitsFor md ops i j=true→L j=true)→wpOp P ops Q i (I (upd L i)) a w)
  (fin:∀ a w,(∃ L,(∀ j,j < n→L j=true)∧I L a w)→wpList P ops Q (l.drop n) a w) :
  ∀ (f:Nat) (listed:Array Bool) (a:Act) (w:World),listed.size=ops.size→(∀ t,n≤t→listed.getD t false=false)→unl listed n=f→(∀ k j,listed.getD k false=true→Region.waitsFor md ops k j=true→listed.getD j false=true)→I (fun j=>listed.getD j false) a w →
   wpAny P md ops Q (f+(ops.size - n)) listed a w:=by
 unfold tailsB4 at hB
 simp only [Bool.and_eq_true,decide_eq_true_eq] at hB
 obtain ⟨⟨⟨hn,hhead⟩,htail⟩,hseq⟩:=hB
 have hdl:(l.drop n).length=ops.size - n:=by rw [← hl]; simp
 intro f
 induction f with
 | zero =>
  intro listed a w hs ht hu hcl hI
  have hz:=unl_zero hu
  have e:listed=Array.replicate n true++Array.replicate (ops.size - n) false:=by
   apply Array.ext
   ·
    simp; omega
   ·
    intro i h1 h2
    have hg:listed[i]=listed.getD i false:=by simp [h1]
    rw [hg]
    by_cases hi:i < n
    ·
     rw [hz i hi,Array.getElem_append_left (by simpa using hi)]; simp
    ·
     rw [ht i (by omega),Array.getElem_append_right (by simpa using hi)]; simp
  rw [Nat.zero_add]
  have:=wpAny_of_seq (P:=P) (md:=md) (ops:=ops) (Q':=Q) (l.drop n) n listed a w (fun j=>by rw [← hl]; simp [List.getElem?_drop]) (by rw [hdl,e]; exact hseq) (fin a w ⟨_,hz,hI⟩)
  rwa [hdl] at this
 | succ f ih =>
  intro listed a w hs ht hu hcl hI
  obtain ⟨i0,hi0,hi0u,hi0l⟩:=unl_pos (listed:=listed) (n:=n) (by omega)
  have hne:Region.ready md ops listed ≠ []:=by
   intro h0
   have hm:i0 ∈ Region.ready md ops listed:=by
    have h1:=List.all_eq_true.1 hhead i0 (List.mem_range.2 hi0)
    have hlt:i0 < ops.size:=by omega
    rw [Array.getElem?_eq_getElem hlt] at h1
    refine mem_ready.2 ⟨getD_in (by omega) hi0u,ops[i0],Array.getElem?_eq_getElem hlt,fun e he hb=>?_⟩
    have h2:=Array.all_eq_true'.1 h1 e he
    simp only [hb,Bool.not_true,Bool.false_or,decide_eq_true_eq] at h2
    exact hi0l _ h2
   rw [h0] at hm; cases hm
  rw [show f+1+(ops.size - n)=(f+(ops.size - n))+1 by omega]
  refine ⟨fun h0=>absurd h0 hne,fun i hi=>?_⟩
  obtain ⟨hiu,oi,hoi,hall⟩:=mem_ready.1 hi
  have hilt:i < ops.size:=(Array.getElem?_eq_some_iff.1 hoi).1
  have hiu':=getD_both hiu
  have hin:i < n:=by
   rcases Nat.lt_or_ge i n with h | h
   ·
    exact h
   ·
    exfalso
    have h1:=List.all_eq_true.1 htail i (List.mem_range.2 hilt)
    simp only [Bool.or_eq_true,decide_eq_true_eq] at h1
    rcases h1 with h1 | h1
    ·
     omega
    ·
     have h2:=List.all_eq_true.1 h1 i0 (List.mem_range.2 hi0)
     have h3:=waitsB_done (L:=fun j=>listed.getD j false) hcl 9 i i0 (fun k hk=>by
      obtain ⟨o',ho',e,he,hb,hon⟩:=Region.waitsFor_spec hk
      have:o'=oi:=Option.some.inj (ho'.symm.trans hoi)
      subst this
      show listed.getD k false=true
      rw [← hon]; exact hall e he hb) h2
     change listed.getD i0 false=true at h3
     rw [hi0u] at h3; cases h3
  have hst:=step _ a w i hin hI hiu' (fun j hj=>by
   obtain ⟨o',ho',e,he,hb,hon⟩:=Region.waitsFor_spec hj
   have:o'=oi:=Option.some.inj (ho'.symm.trans hoi)
   subst this
   rw [← hon]; exact hall e he hb)
  refine wpOp_mono (fun a' w' h'=>?_) hst
  refine ih (listed.setIfInBounds i true) a' w' (by simp [hs]) (fun t h=>by rw [getD_set_ne false (by omega)]; exact ht t h) ?_ ?_ ?_
  ·
   have:=unl_set hin (by omega) hiu'; omega
  ·
   intro k j hk hw
   have hkl:listed.getD k false=true∨k=i:=by
    by_cases e:k=i
    ·
     exact .inr e
    ·
     rw [getD_set_ne false (fun x=>e x.symm)] at hk; exact .inl hk
   have hj:listed.getD j false=true:=by
    rcases hkl with h | rfl
    ·
     exact hcl k j h hw
    ·
     obtain ⟨o',ho',e,he,hb,hon⟩:=Region.waitsFor_spec hw
     have:o'=oi:=Option.some.inj (ho'.symm.trans hoi)
     subst this
     rw [← hon]; exact hall e he hb
   by_cases e:j=i
   ·
    subst e; simp [show j < listed.size by omega]
   ·
    rw [getD_set_ne false (fun x=>e x.symm)]; exact hj
  ·
   rw [getD_upd (by omega)]; exact h'
theorem wp_region_inv4 {Q:Exit→Act→World→Prop} {id:Nat} {a:Act} {w:World} {l:List Oper} (n:Nat) (I:(Nat→Bool)→Act→World→Prop) (hm:P.follows .mixedOrders=true) (hB:tailsB4 .any l.toArray n=true)
  (h0:I (fun _=>false) a w.drew)
  (step:∀ L a w i,i < n→I L a w→L i=false→(∀ j,Region.waitsFor .any l.toArray i j=true→L j=true)→wpOp P l.toArray Q i (I (upd L i)) a w)
  (fin:∀ a w,(∃ L,(∀ j,j < n→L j=true)∧I L a w)→wpList P l.toArray Q (l.drop n) a w):(Code.region id l.toArray true).wp P Q a w:=by
 refine wp_region_any hm ?_
 have hB':=hB
 unfold tailsB4 at hB'
 simp only [Bool.and_eq_true,decide_eq_true_eq] at hB'
 have hn:=hB'.1.1.1
 have hu:unl (Array.replicate l.toArray.size false) n=n:=by
  unfold unl
  rw [List.filter_eq_self.2 (fun i _=>by rw [getD_replicate_false]; rfl),List.length_range]
 have:=wpAny_inv4 (P:=P) (md:=.any) (Q:=Q) (n:=n) (I:=I) (l:=l) rfl hB step fin n (Array.replicate l.toArray.size false) a w.drew (by simp) (fun t _=>getD_replicate_false _ _) hu (fun k j hk=>by rw [getD_replicate_false] at hk; cases hk) (by
  rw [show (fun j=>(Array.replicate l.toArray.size false).getD j false)=fun _=>false from funext fun j=>getD_replicate_false _ _]; exact h0)
 rwa [show n+(l.toArray.size - n)=l.toArray.size by omega] at this
end
section
variable {P:Program}
theorem wp_region_s4 {Q:Exit→Act→World→Prop} {id:Nat} {a:Act} {w W0:World} {X0:Nat→Prop} {l:List Oper} (n:Nat) (ds:List (Option Tmp)) (ks:List VF) (Rel:(Nat→Bool)→(Nat→Value)→(Nat→Prop)→BX→Prop) (fs:List Fa) (hm:P.follows .mixedOrders=true) (hB:tailsB4 .any l.toArray n=true) (hds:ds=(l.take n).map (·.dst)) (hs:slotsB ds=true)
  (hz:ds.all (fun d=>match d with | some t=>decide (t < a.tmps.size) | none=>true)=true)
  (h0:∀ u,∃ X1 l1,Rel (fun _=>false) u X1 l1∧Zs w W0.drew X0 X1 l1 fs)
  (step:∀ i (hi:i < l.length),i < n→∀ (L:Nat→Bool) (u:Nat→Value) (W:World) (A:Act) (X1:Nat→Prop) (l1:BX),L i=false→(∀ k,k < n→L k=true→∀ j,Region.waitsFor .any l.toArray k j=true→L j=true)→Rel L u X1 l1→Zs w W X0 X1 l1 fs→(∀ j,j < n→Region.waitsFor .any l.toArray i j=true→L j=true∧vzL ks X1 j (u j) W)→(∀ j,j < n→L j=true→vzL ks X1 j (u j) W) →
   (∀ t,some t ∉ ds→A.tmps[t]?=a.tmps[t]?)→(∀ j d,ds[j]?=some (some d)→A.tmps[d]?=some (u j))→(∀ j d,j < n→L j=false→ds[j]?=some (some d)→A.tmps[d]?=some (a.tmps.getD d undef))→OpT P Q l[i] l.toArray A ks Rel w X0 fs n i L u W X1)
  (fin:∀ (L:Nat→Bool) (u:Nat→Value) (W:World) (X1:Nat→Prop) (l1:BX),(∀ j,j < n→L j=true)→Rel L u X1 l1→Zs w W X0 X1 l1 fs→(∀ j,j < n→vzL ks X1 j (u j) W)→wpList P l.toArray Q (l.drop n) (layS a ds u 0) W):(Code.region id l.toArray true).wp P Q a W0:=by
 have hl:n≤l.length:=by
  have hB':=hB
  unfold tailsB4 at hB'
  simp only [Bool.and_eq_true,decide_eq_true_eq] at hB'
  simpa using hB'.1.1.1
 have hlen:ds.length=n:=by rw [hds]; simp; omega
 obtain ⟨old,hold⟩:∃ old:Nat→Value,old=fun k=>((ds.getD k none).map fun t=>a.tmps.getD t undef).getD undef:=⟨_,rfl⟩
 refine wp_region_inv4 n (fun L a' W=>∃ (u:Nat→Value) (X1:Nat→Prop) (l1:BX),Rel L u X1 l1∧Zs w W X0 X1 l1 fs∧(∀ j,j < n→L j=true→vzL ks X1 j (u j) W)∧(∀ j,j < n→L j=false→u j=old j)∧(∀ k,k < n→L k=true→∀ j,Region.waitsFor .any l.toArray k j=true→L j=true)∧a'=layS a ds u 0) hm hB ?_ ?_ ?_
 ·
  obtain ⟨X1,l1,h1,h2⟩:=h0 old
  refine ⟨old,X1,l1,h1,h2,nofun,fun _ _ _=>rfl,nofun,(layS_self a ds _ 0 (fun j d hj=>?_)).symm⟩
  have:ds.getD (0+j) none=d:=by rw [Nat.zero_add,List.getD_eq_getElem?_getD,hj]; rfl
  rw [hold]
  simp only
  rw [this]
 ·
  rintro L a' W i hi ⟨u,X1,l1,hR,hJ,hu,ho,hc,rfl⟩ hLi hw
  have hil:i < l.length:=Nat.lt_of_lt_of_le hi hl
  have hid:ds[i]?=some l[i].dst:=by
   rw [hds]
   simp [List.getElem?_take,hi,hil]
  have hinn:∀ j d,ds[j]?=some (some d)→(layS a ds u 0).tmps[d]?=some (u j):=by
   intro j d hj
   have hd':d < a.tmps.size:=by
    have:=List.all_eq_true.1 hz _ (List.mem_of_getElem? hj)
    simpa using this
   have h1:=layS_in ds a u 0 j d hs hj hd'
   rwa [Nat.zero_add] at h1
  have hout:∀ j d,j < n→L j=false→ds[j]?=some (some d)→(layS a ds u 0).tmps[d]?=some (a.tmps.getD d undef):=by
   intro j d hj hL hd
   rw [hinn j d hd,ho j hj hL,hold]
   simp only [List.getD_eq_getElem?_getD,hd,Option.getD_some,Option.map_some]
  refine wpOp_step (o:=l[i]) (by simp [hil]) (fun K' hK=>?_)
  have key:∀ W' v X2 l2,Rel (upd L i) (updV u i v) X2 l2→Zs w W' X0 X2 l2 fs→vzL ks X2 i v W'→(∀ j,j < n→vzL ks X1 j (u j) W→vzL ks X2 j (u j) W')→K' ((layS a ds u 0).put l[i].dst v) W':=by
   intro W' v X2 l2 hr hj hv hb
   rw [layS_put hs hid]
   refine hK _ _ ⟨updV u i v,X2,l2,hr,hj,fun j hjn hLj=>?_,fun j hjn hLj=>?_,fun k hk hLk j hj=>?_,rfl⟩
   ·
    unfold updV
    by_cases h:j=i
    ·
     rw [if_pos h,h]; exact hv
    ·
     rw [if_neg h]
     rw [upd_ne h] at hLj
     exact hb j hjn (hu j hjn hLj)
   ·
    have h:j ≠ i:=by
     intro e
     subst e
     rw [upd_self] at hLj
     cases hLj
    unfold updV
    rw [if_neg h]
    rw [upd_ne h] at hLj
    exact ho j hjn hLj
   ·
    by_cases h:k=i
    ·
     subst h; exact upd_mono (hw j hj)
    ·
     rw [upd_ne h] at hLk
     exact upd_mono (hc k hk hLk j hj)
  rcases step i hil hi L u W _ X1 l1 hLi hc hR hJ (fun j hjn hj=>⟨hw j hj,hu j hjn (hw j hj)⟩) hu (fun t ht=>layS_out _ _ _ _ _ ht) hinn hout with ⟨h1,X2,l2,h2,h3,h4,h5⟩ | ⟨h1,h2⟩
  ·
   rw [if_neg (by rw [h1]; decide)]
   exact key W undef X2 l2 h2 h3 h4 h5
  ·
   rw [if_pos h1]
   exact h2 K' (fun v W' X2 l2 hr hj hv hb=>key W' v X2 l2 hr hj hv hb)
 ·
  rintro a' W ⟨L,hL,u,X1,l1,hR,hJ,hu,_,_,rfl⟩
  exact fin L u W X1 l1 hL hR hJ (fun j hj=>hu j hj (hL j hj))
end
theorem zrq {P:Program} {Q:Exit→Act→World→Prop} {id:Nat} {a:Act} {w W0:World} {X0 X:Nat→Prop} {l:List Oper} {lb:BX} {fs:List Fa} (n:Nat) (ds:List (Option Tmp)) (ks:List VF) (hm:P.follows .mixedOrders=true) (hB:tailsB4 .any l.toArray n=true) (hds:ds=(l.take n).map (·.dst)) (hs:slotsB ds=true)
  (hz:ds.all (fun d=>match d with | some t=>decide (t < a.tmps.size) | none=>true)=true)
  (h0:Zs w W0 X0 X lb fs)
  (step:∀ i (hi:i < l.length),i < n→∀ (L:Nat→Bool) (u:Nat→Value) (W:World) (A:Act),L i=false→(∀ k,k < n→L k=true→∀ j,Region.waitsFor .any l.toArray k j=true→L j=true)→Zs w W X0 X lb fs→(∀ j,(Nat.blt j n && Region.waitsFor .any l.toArray i j)=true→vzL ks X j (u j) W)→(∀ j,j < n→L j=true→vzL ks X j (u j) W) →
   (∀ t,some t ∉ ds→A.tmps[t]?=a.tmps[t]?)→(∀ j d,ds[j]?=some (some d)→A.tmps[d]?=some (u j))→(∀ j d,j < n→L j=false→ds[j]?=some (some d)→A.tmps[d]?=some (a.tmps.getD d undef))→OpZ P Q l[i] l.toArray A (vzL ks X) (fun W=>Zs w W X0 X lb fs) n i u W)
  (fin:∀ (u:Nat→Value) (W:World),Zs w W X0 X lb fs→(∀ j,j < n→vzL ks X j (u j) W)→wpList P l.toArray Q (l.drop n) (layS a ds u 0) W):(Code.region id l.toArray true).wp P Q a W0 :=
 wp_region_s4 n ds ks (fun _ _ X1 l1=>X=X1∧lb=l1) fs hm hB hds hs hz (fun _=>⟨X,lb,⟨rfl,rfl⟩,h0.later (Below.refl _ _).drew⟩)
  (fun i hi hin L u W A X1 l1 h1 h2 hR hJ hd hall hev hinn hold=>by
   obtain ⟨eX,el⟩:=hR
   subst eX
   subst el
   exact zos hJ (fun _=>⟨rfl,rfl⟩) (step i hi hin L u W A h1 h2 hJ (fun j hj=>by
    rw [Bool.and_eq_true] at hj
    exact (hd j (zzF hj.1) hj.2).2) hall hev hinn hold))
  (fun L u W X1 l1 _ hR hJ hd=>by
   obtain ⟨eX,el⟩:=hR
   subst eX
   subst el
   exact fin u W hJ hd)
end Go.Proofs.YtjclllindbfmhaaGreatDoor
