/- Parts of the proof. -/
import Derived.Test.YtcoenncgoepadaaDoorJg1
import Derived.Test.YtcoenncgoepadaaDoorJg2
set_option linter.unusedSimpArgs false
set_option linter.unusedVariables false
/- As part Regv, with one operation that makes a variable wherever it comes in the order. No statement of the seat is proved here. -/
namespace Go.Proofs.YtcoenncgoepadaaDoor
open Go Go.RowKit
section
variable {P:Program}
end
/-- A variable made since, as it was made. -/
def Abox (m:Nat) (C:Array Value) (T:TypeId) (v:Value) (W:World):Prop:=∃ b,v=.pointer (some ⟨b,0,none⟩)∧m≤b∧W.heap[b]?=some (.cells C T (0,0))
theorem Abox.later {m:Nat} {C:Array Value} {T:TypeId} {v:Value} {W W':World} (h:Abox m C T v W) (hb:Below W.heap.size W W'):Abox m C T v W':=by
 obtain ⟨b,e,h1,h2⟩:=h
 exact ⟨b,e,h1,by rw [hb.block b (Array.getElem?_eq_some_iff.1 h2).1,h2]⟩
theorem abox_new {m:Nat} {C:Array Value} {T:TypeId} {W:World} (h:m≤W.heap.size):Abox m C T (.pointer (some ⟨W.heap.size,0,none⟩)) (W.alloc (.cells C T)):=⟨_,rfl,h,by rw [heap_alloc_new]⟩
/-- Properties of values, by place. -/
def lstP (ps:List (Value→World→Prop)) (j:Nat):Value→World→Prop:=ps.getD j (fun _ _=>True)
/-- A value is a given one. -/
def Veq (c:Value) (v:Value) (_:World):Prop:=v=c
theorem Veq.later {c v:Value} {W W':World} (h:Veq c v W) (_:Below W.heap.size W W'):Veq c v W':=h
section
variable {P:Program}
def OpR (P:Program) (Q:Exit→Act→World→Prop) (o:Oper) (ops:Array Oper) (a:Act) (ds:List (Option Tmp)) (VP:Nat→Value→World→Prop) (J:World→Prop) (al:List Nat) (i:Nat) (u:Nat→Value) (W:World):Prop :=
 (i ∉ al∧Region.wanted o (yielded ops (layS a ds u 0).tmps)=false∧VP i undef W∧(layS a ds u 0).put o.dst undef=layS a ds (updV u i undef) 0) ∨
 (Region.wanted o (yielded ops (layS a ds u 0).tmps)=true∧∀ K':Act→World→Prop,(∀ a' W' v,a'=layS a ds (updV u i v) 0→J W'→VP i v W'→Below W.heap.size W W'→(i ∈ al→v=.pointer (some ⟨W.heap.size,0,none⟩))→K' a' W')→Oper.wp P o (layS a ds u 0) W K' Q)
theorem wp_region_rel {Q:Exit→Act→World→Prop} {id:Nat} {a:Act} {w:World} {l:List Oper} (n:Nat) (ds:List (Option Tmp)) (VP:Nat→Value→World→Prop) (J:World→Prop) (al:List Nat) (hm:P.follows .mixedOrders=true) (hB:tailsB2 .any l.toArray n=true)
  (mono:∀ j v W W',j < n→VP j v W→Below W.heap.size W W'→VP j v W')
  (hal:∀ j v W,j < n→j ∈ al→VP j v W→∃ b,v=.pointer (some ⟨b,0,none⟩)∧b < W.heap.size)
  (h0:J w.drew)
  (step:∀ i (hi:i < l.length),i < n→∀ (u:Nat→Value) (W:World),J W→(∀ j,j < n→Region.waitsFor .any l.toArray i j=true→VP j (u j) W)→OpR P Q l[i] l.toArray a ds VP J al i u W)
  (fin:∀ (u:Nat→Value) (W:World),J W→(∀ j,j < n→VP j (u j) W)→(∀ i j,i < n→j < n→i ∈ al→j ∈ al→i ≠ j→u i ≠ u j)→wpList P l.toArray Q (l.drop n) (layS a ds u 0) W):(Code.region id l.toArray true).wp P Q a w:=by
 have hl:n≤l.length:=by
  have hB':=hB
  unfold tailsB2 at hB'
  simp only [Bool.and_eq_true,decide_eq_true_eq] at hB'
  simpa using hB'.1.1.1
 refine wp_region_inv2 n (fun L a' W=>J W∧∃ u:Nat→Value,(∀ j,j < n→L j=true→VP j (u j) W)∧(∀ i j,i < n→j < n→i ∈ al→j ∈ al→i ≠ j→L i=true→L j=true→u i ≠ u j)∧a'=layS a ds u 0) hm hB ⟨h0,fun k=>((ds.getD k none).map fun t=>a.tmps.getD t undef).getD undef,nofun,nofun,?_⟩ ?_ ?_
 ·
  refine (layS_self a ds _ 0 (fun j d hj=>?_)).symm
  have:ds.getD (0+j) none=d:=by rw [Nat.zero_add,List.getD_eq_getElem?_getD,hj]; rfl
  rw [this]
 ·
  rintro L a' W i hi ⟨hJ,u,hu,hne,rfl⟩ _ hw
  have hil:i < l.length:=Nat.lt_of_lt_of_le hi hl
  have key:∀ W' v,J W'→VP i v W'→Below W.heap.size W W'→(i ∈ al→v=.pointer (some ⟨W.heap.size,0,none⟩)) →
    J W'∧∃ u':Nat→Value,(∀ j,j < n→upd L i j=true→VP j (u' j) W')∧(∀ i' j,i' < n→j < n→i' ∈ al→j ∈ al→i' ≠ j→upd L i i'=true→upd L i j=true→u' i' ≠ u' j)∧layS a ds (updV u i v) 0=layS a ds u' 0:=by
   intro W' v hj hv hb hnew
   refine ⟨hj,updV u i v,fun j hjn hj=>?_,fun i' j hi' hj' hia hja hij h1 h2=>?_,rfl⟩
   ·
    unfold updV
    by_cases h:j=i
    ·
     rw [if_pos h,h]; exact hv
    ·
     rw [if_neg h]
     exact mono j _ W W' hjn (hu j hjn (by rw [upd_ne h] at hj; exact hj)) hb
   ·
    unfold updV
    by_cases e1:i'=i
    ·
     by_cases e2:j=i
     ·
      exact absurd (e1.trans e2.symm) hij
     ·
      rw [if_pos e1,if_neg e2]
      obtain ⟨b,hbv,hlt⟩:=hal j _ W hj' hja (hu j hj' (by rw [upd_ne e2] at h2; exact h2))
      rw [hnew (e1 ▸ hia),hbv]
      intro hc
      injection hc with hc
      injection hc with hc
      injection hc with hc
      omega
    ·
     by_cases e2:j=i
     ·
      rw [if_neg e1,if_pos e2]
      obtain ⟨b,hbv,hlt⟩:=hal i' _ W hi' hia (hu i' hi' (by rw [upd_ne e1] at h1; exact h1))
      rw [hnew (e2 ▸ hja),hbv]
      intro hc
      injection hc with hc
      injection hc with hc
      injection hc with hc
      omega
     ·
      rw [if_neg e1,if_neg e2]
      exact hne i' j hi' hj' hia hja hij (by rw [upd_ne e1] at h1; exact h1) (by rw [upd_ne e2] at h2; exact h2)
  refine wpOp_step (o:=l[i]) (by simp [hil]) (fun K' hK=>?_)
  rcases step i hil hi u W hJ (fun j hjn hj=>hu j hjn (hw j hj)) with ⟨h0,h1,h2,h3⟩ | ⟨h1,h2⟩
  ·
   rw [if_neg (by rw [h1]; decide),h3]
   exact hK _ _ (key W undef hJ h2 (Below.refl _ _) (fun h=>absurd h h0))
  ·
   rw [if_pos h1]
   refine h2 K' (fun a' W' v e hj hv hb hnew=>?_)
   subst e
   exact hK _ _ (key W' v hj hv hb hnew)
 ·
  rintro a' W ⟨L,hL,hJ,u,hu,hne,rfl⟩
  exact fin u W hJ (fun j hj=>hu j hj (hL j hj)) (fun i j hi hj hia hja hij=>hne i j hi hj hia hja hij (hL i hi) (hL j hj))
end
theorem Abox.lt {m:Nat} {C:Array Value} {T:TypeId} {v:Value} {W:World} (h:Abox m C T v W):∃ b,v=.pointer (some ⟨b,0,none⟩)∧b < W.heap.size:=by
 obtain ⟨b,e,_,h2⟩:=h
 exact ⟨b,e,(Array.getElem?_eq_some_iff.1 h2).1⟩
/- Where operations may also store: the invariant names which operations are done and what they gave. -/
section
variable {P:Program}
end
end Go.Proofs.YtcoenncgoepadaaDoor
