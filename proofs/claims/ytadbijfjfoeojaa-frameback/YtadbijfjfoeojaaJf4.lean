/- Parts of the proof. -/
import Derived.Test.YtadbijfjfoeojaaJf3
import Derived.Test.YtadbijfjfoeojaaJf1
set_option linter.unusedSimpArgs false
set_option linter.unusedVariables false
/- As part Regv, with one operation that makes a variable wherever it comes in the order. No statement of the seat is proved here. -/
namespace Go.Proofs.Ytadbijfjfoeojaa
open Go Go.RowKit
section
variable {P:Program}
def OpA (P:Program) (Q:Exit→Act→World→Prop) (o:Oper) (ops:Array Oper) (a:Act) (ds:List (Option Tmp)) (V:Nat→Value) (J:World→Prop) (A:Value→World→Prop) (i:Nat) (u:Nat→Value) (W:World):Prop :=
 (Region.wanted o (yielded ops (layS a ds u 0).tmps)=false∧(layS a ds u 0).put o.dst undef=layS a ds (updV u i (V i)) 0) ∨
 (Region.wanted o (yielded ops (layS a ds u 0).tmps)=true∧∀ K':Act→World→Prop,(∀ a' W',a'=layS a ds (updV u i (V i)) 0→J W'→(∀ v,A v W→A v W')→K' a' W')→Oper.wp P o (layS a ds u 0) W K' Q)
def OpN (P:Program) (Q:Exit→Act→World→Prop) (o:Oper) (a:Act) (ds:List (Option Tmp)) (J:World→Prop) (A:Value→World→Prop) (i:Nat) (u:Nat→Value) (W:World):Prop :=
 o.guard=none∧∀ K':Act→World→Prop,(∀ a' W' v,a'=layS a ds (updV u i v) 0→J W'→A v W'→K' a' W')→Oper.wp P o (layS a ds u 0) W K' Q
end
/-- A variable made since, as it was made. -/
def Abox (m:Nat) (C:Array Value) (T:TypeId) (v:Value) (W:World):Prop:=∃ b,v=.pointer (some ⟨b,0,none⟩)∧m≤b∧W.heap[b]?=some (.cells C T (0,0))
theorem Abox.later {m:Nat} {C:Array Value} {T:TypeId} {v:Value} {W W':World} (h:Abox m C T v W) (hb:Below W.heap.size W W'):Abox m C T v W':=by
 obtain ⟨b,e,h1,h2⟩:=h
 exact ⟨b,e,h1,by rw [hb.block b (Array.getElem?_eq_some_iff.1 h2).1,h2]⟩
/-- Properties of values, by place. -/
def lstP (ps:List (Value→World→Prop)) (j:Nat):Value→World→Prop:=ps.getD j (fun _ _=>True)
/-- A value is a given one. -/
def Veq (c:Value) (v:Value) (_:World):Prop:=v=c
theorem Veq.later {c v:Value} {W W':World} (h:Veq c v W) (_:Below W.heap.size W W'):Veq c v W':=h
section
variable {P:Program}
def OpR (P:Program) (Q:Exit→Act→World→Prop) (o:Oper) (ops:Array Oper) (a:Act) (ds:List (Option Tmp)) (VP:Nat→Value→World→Prop) (J:World→Prop) (al:List Nat) (i:Nat) (u:Nat→Value) (W:World):Prop :=
 (i ∉ al∧Region.wanted o (yielded ops (layS a ds u 0).tmps)=false∧VP i undef W∧(layS a ds u 0).put o.dst undef=layS a ds (updV u i undef) 0) ∨
 (Region.wanted o (yielded ops (layS a ds u 0).tmps)=true∧∀ K':Act→World→Prop,(∀ a' W' v,a'=layS a ds (updV u i v) 0→J W'→VP i v W'→Below W.heap.size W W'→(i ∈ al→v=.pointer (some ⟨W.heap.size,0,none⟩))→K' a' W')→Oper.wp P o (layS a ds u 0) W K' Q)
theorem wp_region_rel {Q:Exit→Act→World→Prop} {id:Nat} {a:Act} {w:World} {l:List Oper} (n:Nat) (ds:List (Option Tmp)) (VP:Nat→Value→World→Prop) (J:World→Prop) (al:List Nat) (hm:P.follows .mixedOrders=true) (hB:tailsB2 .any l.toArray n=true)
  (mono:∀ j v W W',j < n→VP j v W→Below W.heap.size W W'→VP j v W')
  (hal:∀ j v W,j < n→j ∈ al→VP j v W→∃ b,v=.pointer (some ⟨b,0,none⟩)∧b < W.heap.size)
  (h0:J w.drew)
  (step:∀ i (hi:i < l.length),i < n→∀ (u:Nat→Value) (W:World),J W→(∀ j,j < n→Region.waitsFor .any l.toArray i j=true→VP j (u j) W)→OpR P Q l[i] l.toArray a ds VP J al i u W)
  (fin:∀ (u:Nat→Value) (W:World),J W→(∀ j,j < n→VP j (u j) W)→(∀ i j,i < n→j < n→i ∈ al→j ∈ al→i ≠ j→u i ≠ u j)→wpList P l.toArray Q (l.drop n) (layS a ds u 0) W):(Code.region id l.toArray true).wp P Q a w:=by
 have hl:n≤l.length:=by
  have hB':=hB
  unfold tailsB2 at hB'
  simp only [Bool.and_eq_true,decide_eq_true_eq] at hB'
  simpa using hB'.1.1.1
 refine wp_region_inv2 n (fun L a' W=>J W∧∃ u:Nat→Value,(∀ j,j < n→L j=true→VP j (u j) W)∧(∀ i j,i < n→j < n→i ∈ al→j ∈ al→i ≠ j→L i=true→L j=true→u i ≠ u j)∧a'=layS a ds u 0) hm hB ⟨h0,fun k=>((ds.getD k none).map fun t=>a.tmps.getD t undef).getD undef,nofun,nofun,?_⟩ ?_ ?_
 ·
  refine (layS_self a ds _ 0 (fun j d hj=>?_)).symm
  have:ds.getD (0+j) none=d:=by rw [Nat.zero_add,List.getD_eq_getElem?_getD,hj]; rfl
  rw [this]
 ·
  rintro L a' W i hi ⟨hJ,u,hu,hne,rfl⟩ _ hw
  have hil:i < l.length:=Nat.lt_of_lt_of_le hi hl
  have key:∀ W' v,J W'→VP i v W'→Below W.heap.size W W'→(i ∈ al→v=.pointer (some ⟨W.heap.size,0,none⟩)) →
    J W'∧∃ u':Nat→Value,(∀ j,j < n→upd L i j=true→VP j (u' j) W')∧(∀ i' j,i' < n→j < n→i' ∈ al→j ∈ al→i' ≠ j→upd L i i'=true→upd L i j=true→u' i' ≠ u' j)∧layS a ds (updV u i v) 0=layS a ds u' 0:=by
   intro W' v hj hv hb hnew
   refine ⟨hj,updV u i v,fun j hjn hj=>?_,fun i' j hi' hj' hia hja hij h1 h2=>?_,rfl⟩
   ·
    unfold updV
    by_cases h:j=i
    ·
     rw [if_pos h,h]; exact hv
    ·
     rw [if_neg h]
     exact mono j _ W W' hjn (hu j hjn (by rw [upd_ne h] at hj; exact hj)) hb
   ·
    unfold updV
    by_cases e1:i'=i
    ·
     by_cases e2:j=i
     ·
      exact absurd (e1.trans e2.symm) hij
     ·
      rw [if_pos e1,if_neg e2]
      obtain ⟨b,hbv,hlt⟩:=hal j _ W hj' hja (hu j hj' (by rw [upd_ne e2] at h2; exact h2))
      rw [hnew (e1 ▸ hia),hbv]
      intro hc
      injection hc with hc
      injection hc with hc
      injection hc with hc
      omega
    ·
     by_cases e2:j=i
     ·
      rw [if_neg e1,if_pos e2]
      obtain ⟨b,hbv,hlt⟩:=hal i' _ W hi' hia (hu i' hi' (by rw [upd_ne e1] at h1; exact h1))
      rw [hnew (e2 ▸ hja),hbv]
      intro hc
      injection hc with hc
      injection hc with hc
      injection hc with hc
      omega
     ·
      rw [if_neg e1,if_neg e2]
      exact hne i' j hi' hj' hia hja hij (by rw [upd_ne e1] at h1; exact h1) (by rw [upd_ne e2] at h2; exact h2)
  refine wpOp_step (o:=l[i]) (by simp [hil]) (fun K' hK=>?_)
  rcases step i hil hi u W hJ (fun j hjn hj=>hu j hjn (hw j hj)) with ⟨h0,h1,h2,h3⟩ | ⟨h1,h2⟩
  ·
   rw [if_neg (by rw [h1]; decide),h3]
   exact hK _ _ (key W undef hJ h2 (Below.refl _ _) (fun h=>absurd h h0))
  ·
   rw [if_pos h1]
   refine h2 K' (fun a' W' v e hj hv hb hnew=>?_)
   subst e
   exact hK _ _ (key W' v hj hv hb hnew)
 ·
  rintro a' W ⟨L,hL,hJ,u,hu,hne,rfl⟩
  exact fin u W hJ (fun j hj=>hu j hj (hL j hj)) (fun i j hi hj hia hja hij=>hne i j hi hj hia hja hij (hL i hi) (hL j hj))
end
theorem Abox.lt {m:Nat} {C:Array Value} {T:TypeId} {v:Value} {W:World} (h:Abox m C T v W):∃ b,v=.pointer (some ⟨b,0,none⟩)∧b < W.heap.size:=by
 obtain ⟨b,e,_,h2⟩:=h
 exact ⟨b,e,(Array.getElem?_eq_some_iff.1 h2).1⟩
/- Where operations may also store: the invariant names which operations are done and what they gave. -/
section
variable {P:Program}
end
section
variable {P:Program} {ops:Array Oper} {md:Region.Mode}
/-- As tailsB; but the tail may wait for the head through others. -/
def tailsB5 (md:Region.Mode) (ops:Array Oper) (n:Nat):Bool :=
 decide (n≤ops.size) &&
 ((List.range n).all fun i=>match ops[i]? with
  | some o=>o.after.all fun e=>!Region.binds md e || decide (e.on < i)
  | none=>false) &&
 ((List.range ops.size).all fun j=>decide (j < n) || (List.range n).all fun i=>waitsB md ops 9 j i) &&
 Region.seqB md ops (ops.size - n) n (Array.replicate n true++Array.replicate (ops.size - n) false)
theorem wpAny_inv5 {Q:Exit→Act→World→Prop} {n:Nat} {I:(Nat→Bool)→Act→World→Prop} {l:List Oper} (hl:l.toArray=ops) (hB:tailsB5 md ops n=true)
  (step:∀ L a w i,i < n→I L a w→L i=false→(∀ j,Region.waitsFor md ops i j=true→L j=true)→wpOp P ops Q i (I (upd L i)) a w)
  (fin:∀ a w,(∃ L,(∀ j,j < n→L j=true)∧I L a w)→wpList P ops Q (l.drop n) a w) :
  ∀ (f:Nat) (listed:Array Bool) (a:Act) (w:World),listed.size=ops.size→(∀ t,n≤t→listed.getD t false=false)→unl listed n=f→(∀ k j,listed.getD k false=true→Region.waitsFor md ops k j=true→listed.getD j false=true)→I (fun j=>listed.getD j false) a w →
   wpAny P md ops Q (f+(ops.size - n)) listed a w:=by
 unfold tailsB5 at hB
 simp only [Bool.and_eq_true,decide_eq_true_eq] at hB
 obtain ⟨⟨⟨hn,hhead⟩,htail⟩,hseq⟩:=hB
 have hdl:(l.drop n).length=ops.size - n:=by rw [← hl]; simp
 intro f
 induction f with
 | zero =>
  intro listed a w hs ht hu hcl hI
  have hz:=unl_zero hu
  have e:listed=Array.replicate n true++Array.replicate (ops.size - n) false:=by
   apply Array.ext
   ·
    simp; omega
   ·
    intro i h1 h2
    have hg:listed[i]=listed.getD i false:=by simp [h1]
    rw [hg]
    by_cases hi:i < n
    ·
     rw [hz i hi,Array.getElem_append_left (by simpa using hi)]; simp
    ·
     rw [ht i (by omega),Array.getElem_append_right (by simpa using hi)]; simp
  rw [Nat.zero_add]
  have:=wpAny_of_seq (P:=P) (md:=md) (ops:=ops) (Q':=Q) (l.drop n) n listed a w (fun j=>by rw [← hl]; simp [List.getElem?_drop]) (by rw [hdl,e]; exact hseq) (fin a w ⟨_,hz,hI⟩)
  rwa [hdl] at this
 | succ f ih =>
  intro listed a w hs ht hu hcl hI
  obtain ⟨i0,hi0,hi0u,hi0l⟩:=unl_pos (listed:=listed) (n:=n) (by omega)
  have hne:Region.ready md ops listed ≠ []:=by
   intro h0
   have hm:i0 ∈ Region.ready md ops listed:=by
    have h1:=List.all_eq_true.1 hhead i0 (List.mem_range.2 hi0)
    have hlt:i0 < ops.size:=by omega
    rw [Array.getElem?_eq_getElem hlt] at h1
    refine mem_ready.2 ⟨getD_in (by omega) hi0u,ops[i0],Array.getElem?_eq_getElem hlt,fun e he hb=>?_⟩
    have h2:=Array.all_eq_true'.1 h1 e he
    simp only [hb,Bool.not_true,Bool.false_or,decide_eq_true_eq] at h2
    exact hi0l _ h2
   rw [h0] at hm; cases hm
  rw [show f+1+(ops.size - n)=(f+(ops.size - n))+1 by omega]
  refine ⟨fun h0=>absurd h0 hne,fun i hi=>?_⟩
  obtain ⟨hiu,oi,hoi,hall⟩:=mem_ready.1 hi
  have hilt:i < ops.size:=(Array.getElem?_eq_some_iff.1 hoi).1
  have hiu':=getD_both hiu
  have hin:i < n:=by
   rcases Nat.lt_or_ge i n with h | h
   ·
    exact h
   ·
    exfalso
    have h1:=List.all_eq_true.1 htail i (List.mem_range.2 hilt)
    simp only [Bool.or_eq_true,decide_eq_true_eq] at h1
    rcases h1 with h1 | h1
    ·
     omega
    ·
     have h2:=List.all_eq_true.1 h1 i0 (List.mem_range.2 hi0)
     have h3:=waitsB_done (L:=fun j=>listed.getD j false) hcl 9 i i0 (fun k hk=>by
      obtain ⟨o',ho',e,he,hb,hon⟩:=Region.waitsFor_spec hk
      have:o'=oi:=Option.some.inj (ho'.symm.trans hoi)
      subst this
      show listed.getD k false=true
      rw [← hon]; exact hall e he hb) h2
     change listed.getD i0 false=true at h3
     rw [hi0u] at h3; cases h3
  have hst:=step _ a w i hin hI hiu' (fun j hj=>by
   obtain ⟨o',ho',e,he,hb,hon⟩:=Region.waitsFor_spec hj
   have:o'=oi:=Option.some.inj (ho'.symm.trans hoi)
   subst this
   rw [← hon]; exact hall e he hb)
  refine wpOp_mono (fun a' w' h'=>?_) hst
  refine ih (listed.setIfInBounds i true) a' w' (by simp [hs]) (fun t h=>by rw [getD_set_ne false (by omega)]; exact ht t h) ?_ ?_ ?_
  ·
   have:=unl_set hin (by omega) hiu'; omega
  ·
   intro k j hk hw
   have hkl:listed.getD k false=true∨k=i:=by
    by_cases e:k=i
    ·
     exact .inr e
    ·
     rw [getD_set_ne false (fun x=>e x.symm)] at hk; exact .inl hk
   have hj:listed.getD j false=true:=by
    rcases hkl with h | rfl
    ·
     exact hcl k j h hw
    ·
     obtain ⟨o',ho',e,he,hb,hon⟩:=Region.waitsFor_spec hw
     have:o'=oi:=Option.some.inj (ho'.symm.trans hoi)
     subst this
     rw [← hon]; exact hall e he hb
   by_cases e:j=i
   ·
    subst e; simp [show j < listed.size by omega]
   ·
    rw [getD_set_ne false (fun x=>e x.symm)]; exact hj
  ·
   rw [getD_upd (by omega)]; exact h'
theorem wp_region_inv5 {Q:Exit→Act→World→Prop} {id:Nat} {a:Act} {w:World} {l:List Oper} (n:Nat) (I:(Nat→Bool)→Act→World→Prop) (hm:P.follows .mixedOrders=true) (hB:tailsB5 .any l.toArray n=true)
  (h0:I (fun _=>false) a w.drew)
  (step:∀ L a w i,i < n→I L a w→L i=false→(∀ j,Region.waitsFor .any l.toArray i j=true→L j=true)→wpOp P l.toArray Q i (I (upd L i)) a w)
  (fin:∀ a w,(∃ L,(∀ j,j < n→L j=true)∧I L a w)→wpList P l.toArray Q (l.drop n) a w):(Code.region id l.toArray true).wp P Q a w:=by
 refine wp_region_any hm ?_
 have hB':=hB
 unfold tailsB5 at hB'
 simp only [Bool.and_eq_true,decide_eq_true_eq] at hB'
 have hn:=hB'.1.1.1
 have hu:unl (Array.replicate l.toArray.size false) n=n:=by
  unfold unl
  rw [List.filter_eq_self.2 (fun i _=>by rw [getD_replicate_false]; rfl),List.length_range]
 have:=wpAny_inv5 (P:=P) (md:=.any) (Q:=Q) (n:=n) (I:=I) (l:=l) rfl hB step fin n (Array.replicate l.toArray.size false) a w.drew (by simp) (fun t _=>getD_replicate_false _ _) hu (fun k j hk=>by rw [getD_replicate_false] at hk; cases hk) (by
  rw [show (fun j=>(Array.replicate l.toArray.size false).getD j false)=fun _=>false from funext fun j=>getD_replicate_false _ _]; exact h0)
 rwa [show n+(l.toArray.size - n)=l.toArray.size by omega] at this
end
section
variable {P:Program}
end
section
variable {P:Program}
/-- The first n operations may come in any order, their values known ahead but for operation k, which makes a variable; the others come behind them, in one order. -/
theorem wp_region_valsB5 {Q:Exit→Act→World→Prop} {id:Nat} {a:Act} {w:World} {l:List Oper} (n k:Nat) (ds:List (Option Tmp)) (V:Nat→Value) (J:World→Prop) (A:Value→World→Prop) (hm:P.follows .mixedOrders=true) (hB:tailsB5 .any l.toArray n=true) (hn:ds.length≤n) (hk:k < n)
  (h0:J w.drew)
  (make:∀ (hi:k < l.length) (u:Nat→Value) (W:World),J W→(∀ j,j ≠ k→Region.waitsFor .any l.toArray k j=true→u j=V j)→OpN P Q l[k] a ds J A k u W)
  (step:∀ i (hi:i < l.length),i < n→i ≠ k→∀ (u:Nat→Value) (W:World),J W→(∀ j,j ≠ k→Region.waitsFor .any l.toArray i j=true→u j=V j)→OpA P Q l[i] l.toArray a ds V J A i u W)
  (fin:∀ W v,J W→A v W→wpList P l.toArray Q (l.drop n) (layS a ds (updV V k v) 0) W):(Code.region id l.toArray true).wp P Q a w:=by
 have hl:n≤l.length:=by
  have hB':=hB
  unfold tailsB5 at hB'
  simp only [Bool.and_eq_true,decide_eq_true_eq] at hB'
  simpa using hB'.1.1.1
 refine wp_region_inv5 n (fun L a' W=>J W∧∃ u:Nat→Value,(∀ j,j ≠ k→L j=true→u j=V j)∧(L k=true→A (u k) W)∧a'=layS a ds u 0) hm hB ⟨h0,fun k=>((ds.getD k none).map fun t=>a.tmps.getD t undef).getD undef,nofun,nofun,?_⟩ ?_ ?_
 ·
  refine (layS_self a ds _ 0 (fun j d hj=>?_)).symm
  have:ds.getD (0+j) none=d:=by rw [Nat.zero_add,List.getD_eq_getElem?_getD,hj]; rfl
  rw [this]
 ·
  rintro L a' W i hi ⟨hJ,u,hu,hA,rfl⟩ _ hw
  have hil:i < l.length:=Nat.lt_of_lt_of_le hi hl
  refine wpOp_step (o:=l[i]) (by simp [hil]) (fun K' hK=>?_)
  by_cases hik:i=k
  ·
   subst hik
   obtain ⟨h1,h2⟩:=make hil u W hJ (fun j hjk hj=>hu j hjk (hw j hj))
   rw [if_pos (by simp [Region.wanted,h1])]
   refine h2 K' (fun a' W' v e hj hv=>hK _ _ ⟨hj,updV u i v,fun j hji hj=>?_,fun _=>by simpa [updV] using hv,e⟩)
   unfold updV
   rw [if_neg hji]
   exact hu j hji (by rw [upd_ne hji] at hj; exact hj)
  ·
   have key:∀ W',J W'→(∀ v,A v W→A v W')→J W'∧∃ u':Nat→Value,(∀ j,j ≠ k→upd L i j=true→u' j=V j)∧(upd L i k=true→A (u' k) W')∧layS a ds (updV u i (V i)) 0=layS a ds u' 0:=by
    intro W' hj hv
    refine ⟨hj,updV u i (V i),fun j hjk hj=>?_,fun hj=>?_,rfl⟩
    ·
     unfold updV
     by_cases h:j=i
     ·
      rw [if_pos h,h]
     ·
      rw [if_neg h]
      exact hu j hjk (by rw [upd_ne h] at hj; exact hj)
    ·
     unfold updV
     rw [if_neg (fun h=>hik h.symm)]
     exact hv _ (hA (by rw [upd_ne (fun h=>hik h.symm)] at hj; exact hj))
   rcases step i hil hi hik u W hJ (fun j hjk hj=>hu j hjk (hw j hj)) with ⟨h1,h2⟩ | ⟨h1,h2⟩
   ·
    rw [if_neg (by rw [h1]; decide),h2]
    exact hK _ _ (key W hJ (fun _ h=>h))
   ·
    rw [if_pos h1]
    refine h2 K' (fun a' W' e hj hv=>?_)
    subst e
    exact hK _ _ (key W' hj hv)
 ·
  rintro a' W ⟨L,hL,hJ,u,hu,hA,rfl⟩
  have e:layS a ds u 0=layS a ds (updV V k (u k)) 0:=layS_congr ds a u _ 0 (fun j hj=>by
   rw [Nat.zero_add]
   unfold updV
   by_cases h:j=k
   ·
    rw [if_pos h,h]
   ·
    rw [if_neg h]; exact hu j h (hL j (by omega)))
  rw [e]
  exact fin W _ hJ (hA (hL k hk))
end
end Go.Proofs.Ytadbijfjfoeojaa
