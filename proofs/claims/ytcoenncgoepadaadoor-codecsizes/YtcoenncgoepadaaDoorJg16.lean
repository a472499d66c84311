/- Parts of the proof. -/
import Derived.Test.YtcoenncgoepadaaDoorJg0
import Derived.Test.YtcoenncgoepadaaDoorJg3
import Derived.Test.YtcoenncgoepadaaDoorJg1
import Derived.Test.YtcoenncgoepadaaDoorJg13
import Derived.Test.YtcoenncgoepadaaDoorJg15
import Derived.Test.YtcoenncgoepadaaDoorJg2
set_option linter.unusedSimpArgs false
set_option linter.unusedVariables false
/- Regions in which variables are made and stored in, in any order; variables of any kind, wherever they lie. No statement of the seat is proved here. -/
namespace Go.Proofs.YtcoenncgoepadaaDoor
open Go Go.RowKit
section
variable {P:Program}
end
/-- Variables and what they hold. -/
def Cl (W:World) (p:Nat × Array Value × TypeId):Prop:=W.heap[p.1]?=some (.cells p.2.1 p.2.2 (0,0))
theorem Cl.below {W W':World} {p:Nat × Array Value × TypeId} (h:Cl W p) (hb:Below W.heap.size W W'):Cl W' p:=by
 unfold Cl at h ⊢
 rw [hb.block _ (Array.getElem?_eq_some_iff.1 h).1]
 exact h
theorem Cl.far {W:World} {p:Nat × Array Value × TypeId} (h:Cl W p) {b:Nat} (hb:p.1 ≠ b) (x y:Value):Cl ((W.setCell ⟨b,0,none⟩ x).setCell ⟨b,1,none⟩ y) p:=by
 unfold Cl at h ⊢
 rw [heap_set_ne _ _ hb,heap_set_ne _ _ hb]
 exact h
/-- A number of the document's: its parts, its value. -/
structure NR where
 b:Bool
 a:Option Addr
 n:Nat
 c:Nat
 z:Int
def NR.v (p:NR):Value:=.agg #[.bool p.b,.slice p.a p.n p.c]
def NR.is (p:NR) (W:World):Prop:=RNum W p.b p.a p.n p.c p.z
/-- What is known between regions: the variables, the numbers. -/
structure Cs (w W:World) (l:List (Nat × Array Value × TypeId)) (ns:List NR):Prop where
 below:Below w.heap.size w W
 at':∀ p,p ∈ l→Cl W p
 num:∀ p,p ∈ ns→p.is W
theorem Cs.later {w W W':World} {l:List (Nat × Array Value × TypeId)} {ns:List NR} (h:Cs w W l ns) (hb:Below W.heap.size W W'):Cs w W' l ns:=⟨h.below.trans (hb.mono h.below.size),fun p hp=>(h.at' p hp).below hb,fun p hp=>RNum.below (h.num p hp) hb⟩
theorem Cs.drew {w W:World} {l:List (Nat × Array Value × TypeId)} {ns:List NR} (h:Cs w W l ns):Cs w W.drew l ns:=h.later (Below.refl _ _).drew
theorem Cs.new {w W:World} {l:List (Nat × Array Value × TypeId)} {ns:List NR} (h:Cs w W l ns) (C:Array Value) (T:TypeId):Cs w (W.alloc (.cells C T)) ((W.heap.size,C,T) :: l) ns:=by
 have hb:Below W.heap.size W (W.alloc (.cells C T)):=(Below.refl _ _).alloc (Nat.le_refl _) _
 refine ⟨(h.later hb).below,fun p hp=>?_,(h.later hb).num⟩
 rcases List.mem_cons.1 hp with rfl | hp
 ·
  exact heap_new W _
 ·
  exact (h.later hb).at' p hp
theorem Cs.lt {w W:World} {l:List (Nat × Array Value × TypeId)} {ns:List NR} (h:Cs w W l ns):∀ p,p ∈ l→p.1 < W.heap.size:=fun p hp=>(Array.getElem?_eq_some_iff.1 (h.at' p hp)).1
theorem Cs.more {w W:World} {l:List (Nat × Array Value × TypeId)} {ns:List NR} (h:Cs w W l ns) {p:NR} (hp:p.is W):Cs w W l (p :: ns):=⟨h.below,h.at',fun q hq=>by
 rcases List.mem_cons.1 hq with rfl | hq
 ·
  exact hp
 ·
  exact h.num q hq⟩
/-- In a region: all of them ahead of m. -/
structure Cm (w:World) (m:Nat) (l:List (Nat × Array Value × TypeId)) (ns:List NR) (W:World):Prop where
 cs:Cs w W l ns
 le:m≤W.heap.size
 lt:∀ p,p ∈ l→p.1 < m
 ge:w.heap.size≤m
theorem Cs.cm {w W:World} {l:List (Nat × Array Value × TypeId)} {ns:List NR} (h:Cs w W l ns):Cm w W.heap.size l ns W.drew:=⟨h.drew,Nat.le_refl _,h.lt,h.below.size⟩
theorem Cm.later {w W W':World} {m:Nat} {l:List (Nat × Array Value × TypeId)} {ns:List NR} (h:Cm w m l ns W) (hb:Below W.heap.size W W'):Cm w m l ns W':=⟨h.cs.later hb,Nat.le_trans h.le hb.size,h.lt,h.ge⟩
theorem Cm.far {w W:World} {m b:Nat} {l:List (Nat × Array Value × TypeId)} {ns:List NR} (h:Cm w m l ns W) (hb:m≤b) {t:TypeId} {bk:Bool} {ak:Option Addr} {nk ck:Nat} (hk:Bx W t b (.bool bk) (.slice ak nk ck)) (x y:Value):Cm w m l ns ((W.setCell ⟨b,0,none⟩ x).setCell ⟨b,1,none⟩ y):=by
 have h1:=h.le
 have h2:=h.ge
 refine ⟨⟨(h.cs.below.setCell (p:=⟨b,0,none⟩) (by show w.heap.size≤b; omega) _).setCell (p:=⟨b,1,none⟩) (by show w.heap.size≤b; omega) _,fun p hp=>(h.cs.at' p hp).far (by have:=h.lt p hp; omega) _ _,fun p hp=>RNum.store (h.cs.num p hp) hk _ _⟩,?_,h.lt,h.ge⟩
 rw [World.size_setCell,World.size_setCell]
 exact h1
/-- The invariant of a region: al the operations that make variables of numbers, sts those that store: (the store, where, what). -/
structure Jy (w:World) (m:Nat) (l:List (Nat × Array Value × TypeId)) (ns:List NR) (T:TypeId) (al:List Nat) (sts:List (Nat × Nat × Nat)) (L:Nat→Bool) (u:Nat→Value) (W:World):Prop where
 cm:Cm w m l ns W
 bx:∀ a,a ∈ al→L a=true→∃ (b:Nat) (bk:Bool) (ak:Option Addr) (nk ck:Nat),u a=.pointer (some ⟨b,0,none⟩)∧m≤b∧Bx W T b (.bool bk) (.slice ak nk ck)
 ne:∀ a a',a ∈ al→a' ∈ al→a ≠ a'→L a=true→L a'=true→u a ≠ u a'
 st:∀ s,s ∈ sts→L s.1=true→L s.2.1=true∧L s.2.2=true∧∃ (b:Nat) (p q:Value),u s.2.1=.pointer (some ⟨b,0,none⟩)∧u s.2.2=.agg #[p,q]∧Bx W T b p q
section
variable {w W:World} {m:Nat} {l:List (Nat × Array Value × TypeId)} {ns:List NR} {T:TypeId} {al:List Nat} {sts:List (Nat × Nat × Nat)} {L:Nat→Bool} {u:Nat→Value}
theorem upd_mono {i j:Nat} (h:L j=true):upd L i j=true:=by
 unfold upd
 split
 ·
  rfl
 ·
  exact h
theorem updV_ne {i j:Nat} {v:Value} (h:j ≠ i):updV u i v j=u j:=if_neg h
theorem ne_of {i j:Nat} (h1:L i=false) (h2:L j=true):j ≠ i:=fun e=>by rw [e,h1] at h2; cases h2
/-- An operation that makes a variable. -/
theorem Jy.alloc {i:Nat} (h:Jy w m l ns T al sts L u W) (hLi:L i=false) (hs:∀ s,s ∈ sts→s.1 ≠ i):Jy w m l ns T al sts (upd L i) (updV u i (.pointer (some ⟨W.heap.size,0,none⟩))) (W.alloc (.cells #[.bool false,.slice none 0 0] T)):=by
 have hb:Below W.heap.size W (W.alloc (.cells #[.bool false,.slice none 0 0] T)):=(Below.refl _ _).alloc (Nat.le_refl _) _
 refine ⟨h.cm.later hb,fun a ha' hL=>?_,fun a a' h1 h2 hne hL1 hL2=>?_,fun s hs' hL=>?_⟩
 ·
  by_cases e:a=i
  ·
   subst e
   exact ⟨W.heap.size,false,none,0,0,by simp [updV],h.cm.le,bx_new _ _ _ _⟩
  ·
   rw [upd_ne e] at hL
   obtain ⟨b,bk,ak,nk,ck,e1,e2,e3⟩:=h.bx a ha' hL
   exact ⟨b,bk,ak,nk,ck,by rw [updV_ne e]; exact e1,e2,e3.below hb⟩
 ·
  have old:∀ a,a ∈ al→a ≠ i→upd L i a=true→updV u i (.pointer (some ⟨W.heap.size,0,none⟩)) a ≠ .pointer (some ⟨W.heap.size,0,none⟩):=by
   intro a ha e hL hc
   rw [upd_ne e] at hL
   obtain ⟨b,_,_,_,_,e1,_,e3⟩:=h.bx a ha hL
   rw [updV_ne e,e1] at hc
   have:=e3.lt
   injection hc with hc
   injection hc with hc
   injection hc with hc
   omega
  by_cases e:a=i
  ·
   have e':a' ≠ i:=fun x=>hne (e.trans x.symm)
   intro hc
   refine old a' h2 e' hL2 ?_
   rw [← hc,e]
   simp [updV]
  ·
   by_cases e':a'=i
   ·
    intro hc
    refine old a h1 e hL1 ?_
    rw [hc,e']
    simp [updV]
   ·
    rw [upd_ne e] at hL1
    rw [upd_ne e'] at hL2
    rw [updV_ne e,updV_ne e']
    exact h.ne a a' h1 h2 hne hL1 hL2
 ·
  rw [upd_ne (hs s hs')] at hL
  obtain ⟨k1,k2,b,p,q,e1,e2,e3⟩:=h.st s hs' hL
  exact ⟨upd_mono k1,upd_mono k2,b,p,q,by rw [updV_ne (ne_of hLi k1)]; exact e1,by rw [updV_ne (ne_of hLi k2)]; exact e2,e3.below hb⟩
/-- An operation that stores a number in a variable that was made. -/
theorem Jy.store {i a x b:Nat} {bk:Bool} {ak:Option Addr} {nk ck:Nat} {b':Bool} {a':Option Addr} {n' c':Nat} {v:Value} (h:Jy w m l ns T al sts L u W) (hLi:L i=false) (ha:i ∉ al) (hin:a ∈ al) (hua:∀ s,s ∈ sts→s.1=i→s=(i,a,x)) (hal:∀ s,s ∈ sts→s.2.1 ∈ al) (hun:∀ s,s ∈ sts→s.1 ≠ i→s.2.1 ≠ a) (hLa:L a=true) (hLx:L x=true) (eu:u a=.pointer (some ⟨b,0,none⟩)) (hm:m≤b) (hB:Bx W T b (.bool bk) (.slice ak nk ck)) (ex:u x=.agg #[.bool b',.slice a' n' c']) :
  Jy w m l ns T al sts (upd L i) (updV u i v) ((W.setCell ⟨b,0,none⟩ (.bool b')).setCell ⟨b,1,none⟩ (.slice a' n' c')):=by
 refine ⟨h.cm.far hm hB _ _,fun a1 ha' hL=>?_,fun a1 a2 h1 h2 hne hL1 hL2=>?_,fun s hs' hL=>?_⟩
 ·
  have e:a1 ≠ i:=fun e=>ha (e ▸ ha')
  rw [upd_ne e] at hL
  obtain ⟨b1,bk1,ak1,nk1,ck1,e1,e2,e3⟩:=h.bx a1 ha' hL
  by_cases hb:b1=b
  ·
   subst hb
   exact ⟨b1,b',a',n',c',by rw [updV_ne e]; exact e1,e2,e3.self _ _⟩
  ·
   exact ⟨b1,bk1,ak1,nk1,ck1,by rw [updV_ne e]; exact e1,e2,e3.other hb _ _⟩
 ·
  have e:a1 ≠ i:=fun e=>ha (e ▸ h1)
  have e':a2 ≠ i:=fun e=>ha (e ▸ h2)
  rw [upd_ne e] at hL1
  rw [upd_ne e'] at hL2
  rw [updV_ne e,updV_ne e']
  exact h.ne a1 a2 h1 h2 hne hL1 hL2
 ·
  by_cases hs:s.1=i
  ·
   rw [hua s hs' hs]
   refine ⟨upd_mono hLa,upd_mono hLx,b,_,_,by rw [updV_ne (ne_of hLi hLa)]; exact eu,by rw [updV_ne (ne_of hLi hLx)]; exact ex,hB.self _ _⟩
  ·
   rw [upd_ne hs] at hL
   obtain ⟨k1,k2,b1,p,q,e1,e2,e3⟩:=h.st s hs' hL
   have hb:b1 ≠ b:=by
    intro hc
    refine h.ne s.2.1 a (hal s hs') hin (hun s hs' hs) k1 hLa ?_
    rw [e1,eu,hc]
   exact ⟨upd_mono k1,upd_mono k2,b1,p,q,by rw [updV_ne (ne_of hLi k1)]; exact e1,by rw [updV_ne (ne_of hLi k2)]; exact e2,e3.other hb _ _⟩
end
/-- Variables and what they hold, all of them made since w, no two of them the same. -/
structure Es (w W:World) (l:List (Nat × Array Value × TypeId)):Prop where
 below:Below w.heap.size w W
 at':∀ p,p ∈ l→Cl W p
 nd:(l.map (·.1)).Nodup
 ge:∀ p,p ∈ l→w.heap.size≤p.1
section
variable {w W W':World} {l:List (Nat × Array Value × TypeId)}
theorem es_nil (w:World):Es w w []:=⟨Below.refl _ _,nofun,List.nodup_nil,nofun⟩
theorem Es.later (h:Es w W l) (hb:Below W.heap.size W W'):Es w W' l:=⟨h.below.trans (hb.mono h.below.size),fun p hp=>(h.at' p hp).below hb,h.nd,h.ge⟩
theorem Es.drew (h:Es w W l):Es w W.drew l:=h.later (Below.refl _ _).drew
theorem Es.lt (h:Es w W l):∀ p,p ∈ l→p.1 < W.heap.size:=fun p hp=>(Array.getElem?_eq_some_iff.1 (h.at' p hp)).1
theorem Es.new (h:Es w W l) (C:Array Value) (T:TypeId):Es w (W.alloc (.cells C T)) ((W.heap.size,C,T) :: l):=by
 have hb:Below W.heap.size W (W.alloc (.cells C T)):=(Below.refl _ _).alloc (Nat.le_refl _) _
 refine ⟨(h.later hb).below,fun p hp=>?_,?_,fun p hp=>?_⟩
 ·
  rcases List.mem_cons.1 hp with rfl | hp
  ·
   exact heap_new W _
  ·
   exact (h.later hb).at' p hp
 ·
  refine List.nodup_cons.2 ⟨fun hm=>?_,h.nd⟩
  obtain ⟨p,hp,e⟩:=List.mem_map.1 hm
  have:=h.lt p hp
  change p.1=W.heap.size at e
  omega
 ·
  rcases List.mem_cons.1 hp with rfl | hp
  ·
   exact h.below.size
  ·
   exact h.ge p hp
theorem Es.sub {l':List (Nat × Array Value × TypeId)} (h:Es w W l) (hs:l'.Sublist l):Es w W l':=⟨h.below,fun p hp=>h.at' p (hs.subset hp),(hs.map _).nodup h.nd,fun p hp=>h.ge p (hs.subset hp)⟩
theorem Es.cell (h:Es w W l) (j:Nat) {b:Nat} {C:Array Value} {T:TypeId} (hj:l[j]?=some (b,C,T)) (i:Nat) {v:Value} (hi:C[i]?=some v):W.cell? ⟨b,i,none⟩=some v:=by
 have hc:W.heap[b]?=some (.cells C T (0,0)):=h.at' _ (List.mem_of_getElem? hj)
 simp [World.cell?,hc,hi]
theorem Es.free (h:Es w W l) (j:Nat) {b:Nat} {C:Array Value} {T:TypeId} (hj:l[j]?=some (b,C,T)) (i:Nat):W.frozen? ⟨b,i,none⟩=false:=by
 have hc:W.heap[b]?=some (.cells C T (0,0)):=h.at' _ (List.mem_of_getElem? hj)
 simp [World.frozen?,hc]
theorem nodup_get {α:Type} {l:List α} (h:l.Nodup) {i j:Nat} {x:α} (hi:l[i]?=some x) (hj:l[j]?=some x):i=j:=by
 obtain ⟨h1,e1⟩:=List.getElem?_eq_some_iff.1 hi
 obtain ⟨h2,e2⟩:=List.getElem?_eq_some_iff.1 hj
 exact (List.getElem_inj h).1 (e1.trans e2.symm)
theorem Es.put1 (h:Es w W l) {j:Nat} {b:Nat} {C:Array Value} {T:TypeId} (hj:l[j]?=some (b,C,T)) (i:Nat) (v:Value):Es w (W.setCell ⟨b,i,none⟩ v) (l.set j (b,C.setIfInBounds i v,T)):=by
 have hc:W.heap[b]?=some (.cells C T (0,0)):=h.at' _ (List.mem_of_getElem? hj)
 have hjl:=(List.getElem?_eq_some_iff.1 hj).1
 have hmap:(l.set j (b,C.setIfInBounds i v,T)).map (·.1)=l.map (·.1):=by
  rw [List.map_set]
  refine List.ext_getElem? fun k=>?_
  rw [List.getElem?_set]
  split
  ·
   next e =>
   subst e
   simp [hjl,(List.getElem?_eq_some_iff.1 hj).2]
  ·
   rfl
 have hge:=h.ge _ (List.mem_of_getElem? hj)
 refine ⟨h.below.setCell (p:=⟨b,i,none⟩) hge _,fun p hp=>?_,hmap ▸ h.nd,fun p hp=>?_⟩
 ·
  obtain ⟨k,hk⟩:=List.mem_iff_getElem?.1 hp
  rw [List.getElem?_set] at hk
  by_cases e:j=k
  ·
   rw [if_pos e,if_pos hjl] at hk
   cases hk
   show (W.setCell ⟨b,i,none⟩ v).heap[b]?=_
   simp [World.setCell,Array.getElem?_modify,hc]
  ·
   rw [if_neg e] at hk
   have hne:p.1 ≠ b:=by
    intro hc'
    refine e (nodup_get h.nd (i:=j) (j:=k) (x:=b) ?_ ?_)
    ·
     simp [hj]
    ·
     simp [hk,hc']
   show (W.setCell ⟨b,i,none⟩ v).heap[p.1]?=_
   rw [heap_set_ne _ _ hne]
   exact h.at' p (List.mem_of_getElem? hk)
 ·
  obtain ⟨k,hk⟩:=List.mem_iff_getElem?.1 hp
  rw [List.getElem?_set] at hk
  by_cases e:j=k
  ·
   rw [if_pos e,if_pos hjl] at hk
   cases hk
   exact hge
  ·
   rw [if_neg e] at hk
   exact h.ge p (List.mem_of_getElem? hk)
/-- Cells stored from a place on. -/
def putC (C:Array Value) (off:Nat):List Value→Array Value
 | []=>C
 | v :: r=>putC (C.setIfInBounds off v) (off+1) r
theorem set_set' {α:Type}:∀ (l:List α) (j:Nat) (x y:α),(l.set j x).set j y=l.set j y
 | [],_,_,_=>rfl
 | _ :: _,0,_,_=>rfl
 | a :: l,j+1,x,y=>by
  show a :: (l.set j x).set j y=_
  rw [set_set' l j x y]
  rfl
theorem run_storeCells {P:Program} (b off:Nat) (T:TypeId):∀ (vs:List Value) (i:Nat) (C:Array Value) (l:List (Nat × Array Value × TypeId)) (j:Nat) (W:World),Es w W l→l[j]?=some (b,C,T)→off+i+vs.length≤C.size→vs.all (·.oneCell')=true →
  ∃ W',(storeCells ⟨b,off,none⟩ vs i).run P W=.ok () W'∧Es w W' (l.set j (b,putC C (off+i) vs,T))∧(∀ k,k ≠ b→W'.heap[k]?=W.heap[k]?)∧W'.heap.size=W.heap.size
 | [],i,C,l,j,W,h,hj,_,_=>by
  refine ⟨W,rfl,?_,fun _ _=>rfl,rfl⟩
  have e:l.set j (b,C,T)=l:=by
   refine List.ext_getElem? fun k=>?_
   rw [List.getElem?_set]
   split
   ·
    next e=>subst e; rw [if_pos (List.getElem?_eq_some_iff.1 hj).1,hj]
   ·
    rfl
  show Es w W (l.set j (b,C,T))
  rw [e]
  exact h
 | v :: r,i,C,l,j,W,h,hj,hs,hb=>by
  have hjl:=(List.getElem?_eq_some_iff.1 hj).1
  rw [List.length_cons] at hs
  have hlt:off+i < C.size:=by omega
  have c1:=h.cell j hj (off+i) (Array.getElem?_eq_getElem hlt)
  have c2:=h.free j hj (off+i)
  have hv:v.oneCell'=true:=by rw [List.all_cons,Bool.and_eq_true] at hb; exact hb.1
  have hr:r.all (·.oneCell')=true:=by rw [List.all_cons,Bool.and_eq_true] at hb; exact hb.2
  have h1:=h.put1 hj (off+i) v
  obtain ⟨W',e1,e2,e3,e4⟩:=run_storeCells b off T r (i+1) (C.setIfInBounds (off+i) v) _ j _ h1 (by rw [List.getElem?_set,if_pos rfl,if_pos hjl]) (by rw [Array.size_setIfInBounds]; omega) hr
  refine ⟨W',?_,?_,fun k hk=>(e3 k hk).trans (heap_set_ne _ _ hk),e4.trans (World.size_setCell _ _ _)⟩
  ·
   have hadd:(⟨b,off,none⟩:Addr).add i=⟨b,off+i,none⟩:=by unfold Addr.add; split <;> simp_all
   rw [← e1]
   simp only [storeCells,Sem.run_bind,hadd,run_store P W _ v _ hv,c1,c2]
   rfl
  ·
   rw [set_set'] at e2
   exact e2
end
/-- A goal that the walk does not go into. -/
def Stop (p:Prop):Prop:=p
section
variable {P:Program} {ops:Array Oper} {Q:Exit→Act→World→Prop} {a:Act} {w W:World} {rest:List Oper} {o:Oper} {l:List (Nat × Array Value × TypeId)}
theorem wp_alloc {next:Act→World→Prop} (T:TypeId) (ho:o.op=.alloc T) (z:Value) (hz:∀ W,(zeroValue T).run P W=.ok z W) (k:next (a.put o.dst (.pointer (some ⟨W.heap.size,0,none⟩))) (W.alloc (.cells z.cells T))):o.wp P a W next Q:=by
 have e:(execOp a.eval o).run P W=.ok (.value (.pointer (some ⟨W.heap.size,0,none⟩))) (W.alloc (.cells z.cells T)):=by
  unfold execOp
  rw [ho]
  simp only [Instr.alloc,newVar,newRow,Sem.run_bind,hz,Result.andThen,run_newObj_alloc]
  rfl
 unfold Oper.wp
 rw [e]
 exact k
theorem wp_box {next:Act→World→Prop} (T:TypeId) (x:Operand) (ho:o.op=.box T x) (k:next (a.put o.dst (.pointer (some ⟨W.heap.size,0,none⟩))) (W.alloc (.cells (a.eval x).cells T))):o.wp P a W next Q:=by
 have e:(execOp a.eval o).run P W=.ok (.value (.pointer (some ⟨W.heap.size,0,none⟩))) (W.alloc (.cells (a.eval x).cells T)):=by
  unfold execOp
  rw [ho]
  simp only [Instr.box,newVar,newRow,Sem.run_bind,Result.andThen,run_newObj_alloc]
  rfl
 unfold Oper.wp
 rw [e]
 exact k
theorem wp_store {next:Act→World→Prop} (T:TypeId) (p x:Operand) (ho:o.op=.store T p x) (j b off:Nat) (C:Array Value) (T':TypeId) (n:Nat) (vs:List Value) (h:Es w W l) (hj:l[j]?=some (b,C,T')) (hp:a.eval p=.pointer (some ⟨b,off,none⟩)) (hx:(a.eval x).cells.toList=vs) (hn:∀ W,(sizeOf T).run P W=.ok n W) (hv:vs.length=n) (hs:off+n≤C.size) (hb:vs.all (·.oneCell')=true)
  (k:∀ W',Es w W' (l.set j (b,putC C off vs,T'))→(∀ k,k ≠ b→W'.heap[k]?=W.heap[k]?)→W'.heap.size=W.heap.size→next (a.put o.dst undef) W'):o.wp P a W next Q:=by
 obtain ⟨W',e1,e2,e4,e5⟩:=run_storeCells (P:=P) b off T' vs 0 C l j W h hj (by omega) hb
 have hsz:(a.eval x).cells.size=n:=by rw [← Array.length_toList,hx,hv]
 have e3:(Instr.storeAt T (a.eval p) (a.eval x)).run P W=.ok () W':=by
  rw [hp]
  unfold Instr.storeAt storeVar
  have hsa:(Instr.sureAddr (.pointer (some ⟨b,off,none⟩))).run P W=.ok ⟨b,off,none⟩ W:=rfl
  simp only [Sem.run_bind,hsa,Result.andThen,hn,hsz,hx]
  rw [if_neg (by simp)]
  exact e1
 have e:(execOp a.eval o).run P W=.ok .skip W':=by
  unfold execOp
  rw [ho]
  simp only [Sem.run_bind,e3,Result.andThen]
  rfl
 unfold Oper.wp
 rw [e]
 exact k W' e2 e4 e5
theorem stop_alloc (T:TypeId) (C:Array Value) (z:Value) (hg:o.guard=none) (ho:o.op=.alloc T) (hz:∀ W,(zeroValue T).run P W=.ok z W) (hC:z.cells=C) (h:Es w W l) (k:∀ (b:Nat) (W':World),Es w W' ((b,C,T) :: l)→Stop (wpList P ops Q rest (a.put o.dst (.pointer (some ⟨b,0,none⟩))) W')):wpList P ops Q (o :: rest) a W :=
 wpList_plain hg fun K hK=>wp_alloc T ho z hz (hK _ _ (k _ _ (hC ▸ h.new z.cells T)))
theorem stop_box (T:TypeId) (x:Operand) (C:Array Value) (hg:o.guard=none) (ho:o.op=.box T x) (hC:(a.eval x).cells=C) (h:Es w W l) (k:∀ (b:Nat) (W':World),Es w W' ((b,C,T) :: l)→Stop (wpList P ops Q rest (a.put o.dst (.pointer (some ⟨b,0,none⟩))) W')):wpList P ops Q (o :: rest) a W :=
 wpList_plain hg fun K hK=>wp_box T x ho (hK _ _ (k _ _ (hC ▸ h.new (a.eval x).cells T)))
theorem stop_store (T:TypeId) (p x:Operand) (j b off:Nat) (C:Array Value) (T':TypeId) (n:Nat) (vs:List Value) (C':Array Value) (l':List (Nat × Array Value × TypeId)) (hg:o.guard=none) (ho:o.op=.store T p x) (hp:a.eval p=.pointer (some ⟨b,off,none⟩)) (hx:(a.eval x).cells.toList=vs) (hn:∀ W,(sizeOf T).run P W=.ok n W) (h:Es w W l) (hj:l[j]?=some (b,C,T')) (hv:vs.length=n) (hs:off+n≤C.size) (hb:vs.all (·.oneCell')=true) (hC:putC C off vs=C') (hl:l.set j (b,C',T')=l')
  (k:∀ W',Es w W' l'→Stop (wpList P ops Q rest (a.put o.dst undef) W')):wpList P ops Q (o :: rest) a W :=
 wpList_plain hg fun K hK=>wp_store T p x ho j b off C T' n vs h hj hp hx hn hv hs hb (fun W' e _ _=>hK _ _ (k W' (by rw [hC,hl] at e; exact e)))
end
/-- In a region: the variables, all of them ahead of m. -/
structure Em (w:World) (m:Nat) (l:List (Nat × Array Value × TypeId)) (W:World):Prop where
 es:Es w W l
 le:m≤W.heap.size
 lt:∀ p,p ∈ l→p.1 < m
 ge:w.heap.size≤m
theorem Es.em {w W:World} {l:List (Nat × Array Value × TypeId)} (h:Es w W l):Em w W.heap.size l W.drew:=⟨h.drew,Nat.le_refl _,h.lt,h.below.size⟩
theorem Em.later {w W W':World} {m:Nat} {l:List (Nat × Array Value × TypeId)} (h:Em w m l W) (hb:Below W.heap.size W W'):Em w m l W':=⟨h.es.later hb,Nat.le_trans h.le hb.size,h.lt,h.ge⟩
/-- A new variable joins. -/
theorem Em.join {w W:World} {m b:Nat} {l:List (Nat × Array Value × TypeId)} {C:Array Value} {T:TypeId} (h:Em w m l W) (hb:m≤b) (hc:Cl W (b,C,T)):Es w W ((b,C,T) :: l):=by
 refine ⟨h.es.below,fun p hp=>?_,?_,fun p hp=>?_⟩
 ·
  rcases List.mem_cons.1 hp with rfl | hp
  ·
   exact hc
  ·
   exact h.es.at' p hp
 ·
  refine List.nodup_cons.2 ⟨fun hm=>?_,h.es.nd⟩
  obtain ⟨p,hp,e⟩:=List.mem_map.1 hm
  have:=h.lt p hp
  change p.1=b at e
  omega
 ·
  rcases List.mem_cons.1 hp with rfl | hp
  ·
   exact Nat.le_trans h.ge hb
  ·
   exact h.es.ge p hp
/-- A region in which variables are made and stored in, in any order. al: (the operation that makes it, its cells, its type); sts: (the store, the operation that made the variable, what it holds then). -/
structure Jz (w:World) (m:Nat) (l:List (Nat × Array Value × TypeId)) (al:List (Nat × Nat × TypeId)) (sts:List (Nat × Nat × Array Value × TypeId)) (L:Nat→Bool) (u:Nat→Value) (W:World):Prop where
 em:Em w m l W
 bx:∀ a,a ∈ al→L a.1=true→∃ (b:Nat) (C:Array Value),u a.1=.pointer (some ⟨b,0,none⟩)∧m≤b∧C.size=a.2.1∧Cl W (b,C,a.2.2)
 ne:∀ a a',a ∈ al→a' ∈ al→a.1 ≠ a'.1→L a.1=true→L a'.1=true→u a.1 ≠ u a'.1
 st:∀ s,s ∈ sts→L s.1=true→L s.2.1=true∧∃ b:Nat,u s.2.1=.pointer (some ⟨b,0,none⟩)∧Cl W (b,s.2.2.1,s.2.2.2)
section
variable {w W:World} {m:Nat} {l:List (Nat × Array Value × TypeId)} {al:List (Nat × Nat × TypeId)} {sts:List (Nat × Nat × Array Value × TypeId)} {L:Nat→Bool} {u:Nat→Value}
theorem Jz.alloc {i n:Nat} {C:Array Value} {T:TypeId} (h:Jz w m l al sts L u W) (hLi:L i=false) (hn:C.size=n) (hin:∀ a,a ∈ al→a.1=i→a=(i,n,T)) (hs:∀ s,s ∈ sts→s.1 ≠ i):Jz w m l al sts (upd L i) (updV u i (.pointer (some ⟨W.heap.size,0,none⟩))) (W.alloc (.cells C T)):=by
 have hb:Below W.heap.size W (W.alloc (.cells C T)):=(Below.refl _ _).alloc (Nat.le_refl _) _
 have old:∀ a,a ∈ al→a.1 ≠ i→upd L i a.1=true→updV u i (.pointer (some ⟨W.heap.size,0,none⟩)) a.1 ≠ .pointer (some ⟨W.heap.size,0,none⟩):=by
  intro a ha e hL hc
  rw [upd_ne e] at hL
  obtain ⟨b,C',e1,_,_,e4⟩:=h.bx a ha hL
  rw [updV_ne e,e1] at hc
  have:=(Array.getElem?_eq_some_iff.1 e4).1
  injection hc with hc
  injection hc with hc
  injection hc with hc
  change b < W.heap.size at this
  omega
 refine ⟨h.em.later hb,fun a ha' hL=>?_,fun a a' h1 h2 hne hL1 hL2=>?_,fun s hs' hL=>?_⟩
 ·
  by_cases e:a.1=i
  ·
   rw [hin a ha' e]
   exact ⟨W.heap.size,C,by simp [updV],h.em.le,hn,heap_new W _⟩
  ·
   rw [upd_ne e] at hL
   obtain ⟨b,C',e1,e2,e3,e4⟩:=h.bx a ha' hL
   exact ⟨b,C',by rw [updV_ne e]; exact e1,e2,e3,e4.below hb⟩
 ·
  by_cases e:a.1=i
  ·
   have e':a'.1 ≠ i:=fun x=>hne (e.trans x.symm)
   intro hc
   refine old a' h2 e' hL2 ?_
   rw [← hc,e]
   simp [updV]
  ·
   by_cases e':a'.1=i
   ·
    intro hc
    refine old a h1 e hL1 ?_
    rw [hc,e']
    simp [updV]
   ·
    rw [upd_ne e] at hL1
    rw [upd_ne e'] at hL2
    rw [updV_ne e,updV_ne e']
    exact h.ne a a' h1 h2 hne hL1 hL2
 ·
  rw [upd_ne (hs s hs')] at hL
  obtain ⟨k1,b,e1,e2⟩:=h.st s hs' hL
  exact ⟨upd_mono k1,b,by rw [updV_ne (ne_of hLi k1)]; exact e1,e2.below hb⟩
theorem Cl.keep {W':World} {p:Nat × Array Value × TypeId} {b:Nat} (h:Cl W p) (hb:p.1 ≠ b) (hk:∀ k,k ≠ b→W'.heap[k]?=W.heap[k]?):Cl W' p:=(hk p.1 hb).trans h
/-- A store into a variable that was made. -/
theorem Jz.store {W':World} {i a b n:Nat} {T:TypeId} {Cn:Array Value} {v:Value} (h:Jz w m l al sts L u W) (hLi:L i=false) (ha:∀ a,a ∈ al→a.1 ≠ i) (hin:(a,n,T) ∈ al) (hun:∀ x,x ∈ al→x.1=a→x=(a,n,T)) (hua:∀ s,s ∈ sts→s.1=i→s=(i,a,Cn,T)) (hal:∀ s,s ∈ sts→∃ x,x ∈ al∧x.1=s.2.1) (hus:∀ s,s ∈ sts→s.1 ≠ i→s.2.1 ≠ a) (hLa:L a=true)
  (eu:u a=.pointer (some ⟨b,0,none⟩)) (hm:m≤b) (hn:Cn.size=n) (hE:Es w W' ((b,Cn,T) :: l)) (hk:∀ k,k ≠ b→W'.heap[k]?=W.heap[k]?) (hz:W'.heap.size=W.heap.size):Jz w m l al sts (upd L i) (updV u i v) W':=by
 have hCl:Cl W' (b,Cn,T):=hE.at' _ (List.mem_cons_self ..)
 refine ⟨⟨hE.sub (List.sublist_cons_self _ _),by rw [hz]; exact h.em.le,h.em.lt,h.em.ge⟩,fun a1 ha' hL=>?_,fun a1 a2 h1 h2 hne hL1 hL2=>?_,fun s hs' hL=>?_⟩
 ·
  rw [upd_ne (ha a1 ha')] at hL
  obtain ⟨b1,C1,e1,e2,e3,e4⟩:=h.bx a1 ha' hL
  by_cases hb:b1=b
  ·
   subst hb
   have:a1.1=a:=by
    refine Classical.byContradiction fun hc=>h.ne a1 (a,n,T) ha' hin hc hL hLa ?_
    rw [e1,eu]
   rw [hun a1 ha' this]
   exact ⟨b1,Cn,by rw [updV_ne (ne_of hLi hLa)]; exact eu,hm,hn,hCl⟩
  ·
   exact ⟨b1,C1,by rw [updV_ne (ha a1 ha')]; exact e1,e2,e3,e4.keep hb hk⟩
 ·
  rw [upd_ne (ha a1 h1)] at hL1
  rw [upd_ne (ha a2 h2)] at hL2
  rw [updV_ne (ha a1 h1),updV_ne (ha a2 h2)]
  exact h.ne a1 a2 h1 h2 hne hL1 hL2
 ·
  by_cases hs:s.1=i
  ·
   rw [hua s hs' hs]
   exact ⟨upd_mono hLa,b,by rw [updV_ne (ne_of hLi hLa)]; exact eu,hCl⟩
  ·
   rw [upd_ne hs] at hL
   obtain ⟨k1,b1,e1,e2⟩:=h.st s hs' hL
   have hb:b1 ≠ b:=by
    intro hc
    obtain ⟨x,hx,ex⟩:=hal s hs'
    refine h.ne x (a,n,T) hx hin (by rw [ex]; exact hus s hs' hs) (by rw [ex]; exact k1) hLa ?_
    rw [ex,e1,eu,hc]
   exact ⟨upd_mono k1,b1,by rw [updV_ne (ne_of hLi k1)]; exact e1,e2.keep hb hk⟩
end
/-- Another variable joins what was found. -/
theorem Es.join {w W:World} {b:Nat} {l:List (Nat × Array Value × TypeId)} {C:Array Value} {T:TypeId} (h:Es w W l) (hg:w.heap.size≤b) (hne:∀ p,p ∈ l→p.1 ≠ b) (hc:Cl W (b,C,T)):Es w W ((b,C,T) :: l):=by
 refine ⟨h.below,fun p hp=>?_,?_,fun p hp=>?_⟩
 ·
  rcases List.mem_cons.1 hp with rfl | hp
  ·
   exact hc
  ·
   exact h.at' p hp
 ·
  refine List.nodup_cons.2 ⟨fun hm=>?_,h.nd⟩
  obtain ⟨p,hp,e⟩:=List.mem_map.1 hm
  exact hne p hp e
 ·
  rcases List.mem_cons.1 hp with rfl | hp
  ·
   exact hg
  ·
   exact h.ge p hp
/-- How many values a kind has. -/
def cnt (k:Int):Nat:=if k=1 then 6 else if k=2 then 6 else if k=3 then 1 else if k=4 then 3 else 0
/-- The table of the landed package. -/
structure Tab (w:World):Prop where
 c0:w.cell? ⟨0,0,none⟩=some (.int .i64 0)
 c1:w.cell? ⟨0,1,none⟩=some (.int .i64 6)
 c2:w.cell? ⟨0,2,none⟩=some (.int .i64 6)
 c3:w.cell? ⟨0,3,none⟩=some (.int .i64 1)
 c4:w.cell? ⟨0,4,none⟩=some (.int .i64 3)
theorem cell_on {W W':World} {b k:Nat} {v:Value} (h:W.cell? ⟨b,k,none⟩=some v) (hb:Below W.heap.size W W'):W'.cell? ⟨b,k,none⟩=some v:=by
 have hlt:=World.block_lt_of_cell? W _ h
 unfold World.cell? at *
 simp only at *
 rw [hb.block b hlt]
 exact h
theorem Tab.below {w w':World} (h:Tab w) (hb:Below w.heap.size w w'):Tab w':=⟨cell_on h.c0 hb,cell_on h.c1 hb,cell_on h.c2 hb,cell_on h.c3 hb,cell_on h.c4 hb⟩
/-- A measurement in a variable. -/
structure Mb (W:World) (b:Nat) (k a q:Int) (v:Value):Prop where
 c0:W.cell? ⟨b,0,none⟩=some (.int .i64 k)
 c1:W.cell? ⟨b,1,none⟩=some (.int .i64 a)
 c2:W.cell? ⟨b,2,none⟩=some (.int .i64 q)
 c3:W.cell? ⟨b,3,none⟩=some v
theorem Mb.below {w w':World} {b:Nat} {k a q:Int} {v:Value} (h:Mb w b k a q v) (hb:Below w.heap.size w w'):Mb w' b k a q v:=⟨cell_on h.c0 hb,cell_on h.c1 hb,cell_on h.c2 hb,cell_on h.c3 hb⟩
theorem Mb.of {w W:World} {l:List (Nat × Array Value × TypeId)} {b:Nat} {k a q:Int} {v:Value} {T:TypeId} (h:Es w W l) (j:Nat) (hj:l[j]?=some (b,#[.int .i64 k,.int .i64 a,.int .i64 q,v],T)):Mb W b k a q v :=
 ⟨h.cell j hj 0 rfl,h.cell j hj 1 rfl,h.cell j hj 2 rfl,h.cell j hj 3 rfl⟩
/-- Numbers that lie in memory. -/
def Il (W:World) (ad:Option Addr) (vs:List Int):Prop:=∀ i (h:i < vs.length),∃ b o,ad=some ⟨b,o,none⟩∧W.cell? ⟨b,o+i,none⟩=some (.int .i64 vs[i])
theorem Il.below {W W':World} {ad:Option Addr} {vs:List Int} (h:Il W ad vs) (hb:Below W.heap.size W W'):Il W' ad vs:=fun i hi=>by
 obtain ⟨b,o,e,hc⟩:=h i hi
 exact ⟨b,o,e,cell_on hc hb⟩
theorem il_nil (W:World) (ad:Option Addr):Il W ad []:=fun i hi=>absurd hi (Nat.not_lt_zero _)
/-- What keeps a value from being one of a measurement. -/
abbrev okV (v:Int):Prop:=-2147483647≤v∧v≤2147483647
/-- What is wrong with a measurement. -/
def err (k a q:Int) (vs:List Int):Int :=
 if cnt k=0 then 120 else if vs.length ≠ cnt k then 121 else if a < 0∨4294967295 < a∨q < 0∨65535 < q then 122 else if ∀ v,v ∈ vs→okV v then 0 else 122
section
variable {k a q:Int} {vs:List Int}
theorem err_kind (h:cnt k=0):err k a q vs=120:=by unfold err; rw [if_pos h]
theorem err_size (h:cnt k ≠ 0) (h1:vs.length ≠ cnt k):err k a q vs=121:=by unfold err; rw [if_neg h,if_pos h1]
theorem err_num (h:cnt k ≠ 0) (h1:vs.length=cnt k) (h2:a < 0∨4294967295 < a∨q < 0∨65535 < q):err k a q vs=122:=by unfold err; rw [if_neg h,if_neg (by omega),if_pos h2]
theorem err_val (h:cnt k ≠ 0) (h1:vs.length=cnt k) (h2:¬ (a < 0∨4294967295 < a∨q < 0∨65535 < q)) {i:Nat} (hi:i < vs.length) (h3:¬ okV vs[i]):err k a q vs=122:=by
 unfold err
 rw [if_neg h,if_neg (by omega),if_neg h2,if_neg (fun hc=>h3 (hc _ (List.getElem_mem hi)))]
theorem err_ok (h:cnt k ≠ 0) (h1:vs.length=cnt k) (h2:¬ (a < 0∨4294967295 < a∨q < 0∨65535 < q)) (h3:∀ i (hi:i < vs.length),okV vs[i]):err k a q vs=0:=by
 unfold err
 rw [if_neg h,if_neg (by omega),if_neg h2,if_pos]
 intro v hv
 obtain ⟨i,hi,rfl⟩:=List.getElem_of_mem hv
 exact h3 i hi
theorem of_err (h:err k a q vs=0):cnt k ≠ 0∧vs.length=cnt k∧(0≤a∧a≤4294967295)∧(0≤q∧q≤65535)∧∀ v,v ∈ vs→okV v:=by
 unfold err at h
 split at h
 ·
  omega
 split at h
 ·
  omega
 split at h
 ·
  omega
 split at h
 ·
  next h1 h2 h3 h4=>exact ⟨h1,by omega,by omega,by omega,h4⟩
 ·
  omega
end
theorem cnt_le (k:Int):cnt k≤6:=by unfold cnt; split <;> (try split) <;> (try split) <;> (try split) <;> omega
theorem cnt_pos (k:Int):0 < cnt k↔1≤k∧k≤4:=by
 unfold cnt
 repeat' split
 all_goals omega
theorem cnt_no {k:Int} (h:k < 1∨4 < k):cnt k=0:=by
 have:=cnt_pos k
 omega
set_option maxHeartbeats 1600000 in
theorem count_any (k:Int) (w:World) (hT:Tab w):Calls Tryd.prog 11 #[.int .i64 k] w (PVal (.int .i64 (cnt k:Nat)) w):=by
 by_cases h:k < 0
 ·
  rw [cnt_no (by omega)]
  have d:decide (k < 0)=true:=decide_eq_true h
  go_enter Tryd.func11,Tryd.ntmps11
  go_wp2
  go_ret
  exact ⟨rfl,Below.refl _ _⟩
 ·
  have d:decide (k < 0)=false:=decide_eq_false h
  by_cases h5:5≤k
  ·
   rw [cnt_no (by omega)]
   have d5:decide (5≤k)=true:=decide_eq_true h5
   go_enter Tryd.func11,Tryd.ntmps11
   go_wp2
   go_ret
   exact ⟨rfl,Below.refl _ _⟩
  ·
   clear d
   have c0:=hT.c0
   have c1:=hT.c1
   have c2:=hT.c2
   have c3:=hT.c3
   have c4:=hT.c4
   obtain rfl | rfl | rfl | rfl | rfl:k=0∨k=1∨k=2∨k=3∨k=4:=by omega
   all_goals
    go_enter Tryd.func11,Tryd.ntmps11
    go_wp2
    go_ret
    exact ⟨rfl,Below.refl _ _⟩
set_option maxHeartbeats 1600000 in
theorem rcount_any (k:Int) (w:World):Calls Tryd.prog 12 #[.int .i64 k] w (PVal (.int .i64 (cnt k:Nat)) w):=by
 by_cases h:k < 1∨4 < k
 ·
  rw [cnt_no h]
  have e1:(k == 1)=false:=by rw [beq_eq_false_iff_ne]; omega
  have e2:(k == 2)=false:=by rw [beq_eq_false_iff_ne]; omega
  have e3:(k == 3)=false:=by rw [beq_eq_false_iff_ne]; omega
  have e4:(k == 4)=false:=by rw [beq_eq_false_iff_ne]; omega
  go_enter Tryd.func12,Tryd.ntmps12
  go_wp2
  go_ret
  exact ⟨rfl,Below.refl _ _⟩
 ·
  obtain rfl | rfl | rfl | rfl:k=1∨k=2∨k=3∨k=4:=by omega
  all_goals
   clear h
   go_enter Tryd.func12,Tryd.ntmps12
   go_wp2
   go_ret
   exact ⟨rfl,Below.refl _ _⟩
set_option maxRecDepth 100000 in
set_option maxHeartbeats 3200000 in
theorem fault_w {w:World} {k a q:Int} {ad:Option Addr} {n m c:Nat} {vs:List Int} (hT:Tab w) (hv:Il w ad vs) (hn:vs.length=n) (hm:cnt k=m) (hnb:n≤20000000000000) (hmb:m≤6):Calls Tryd.prog 16 #[.agg #[.int .i64 k,.int .i64 a,.int .i64 q,.slice ad n c]] w (PVal (.int .i64 (err k a q vs)) w):=by
 have hJ0:=es_nil w
 have HT:=Lib.hid hT
 have HV:=Lib.hid hv
 have HN:=Lib.hid hn
 have HM:=Lib.hid hm
 clear hT hv hn hm
 go_enter Tryd.func16,Tryd.ntmps16
 go_wp2_with (refine stop_box 24 (.tmp 0) #[.int .i64 k,.int .i64 a,.int .i64 q,.slice ad n c] rfl rfl rfl hJ0 (fun b W1 hJ1=>?_))
 clear hJ0
 simp only [Stop,Act.put,zzC,zzD,zzE]
 have hB1:=hJ1.below
 have hM:=Mb.of hJ1 0 rfl
 clear hJ1
 have c0:=hM.c0
 go_wp2_with fail
 refine (count_any k W1 (HT.out.below hB1)).mono ?_
 rintro e W2 ⟨rfl,hB2⟩
 have hB:=hB1.trans (hB2.mono hB1.size)
 have hM2:=hM.below hB2
 clear c0 hM hB1 hB2
 have c1:=hM2.c1
 have c2:=hM2.c2
 have c3:=hM2.c3
 have hV2:=HV.out.below hB
 clear hM2
 rw [HM.out]
 by_cases h0:m=0
 ·
  have e0:((m:Int) == 0)=true:=by rw [h0]; rfl
  have HE:Hid (err k a q vs=120):=err_kind (by rw [HM.out]; exact h0)
  clear h0
  go_wp2
  go_ret
  exact ⟨ret_int HE.out.symm,hB⟩
 have e0:((m:Int) == 0)=false:=by rw [beq_eq_false_iff_ne]; omega
 have H0:Hid (cnt k ≠ 0):=by show _ ≠ _; rw [HM.out]; exact h0
 clear h0
 by_cases h1:n=m
 rotate_left
 ·
  have e1:((n:Int) != (m:Int))=true:=by rw [bne_iff_ne]; omega
  have HE:Hid (err k a q vs=121):=err_size H0.out (by rw [HM.out,HN.out]; exact h1)
  clear h1
  go_wp2
  go_ret
  exact ⟨ret_int HE.out.symm,hB⟩
 have e1:((n:Int) != (m:Int))=false:=by rw [bne_eq_false_iff_eq]; omega
 have H1:Hid (vs.length=cnt k):=by show _=_; rw [HM.out,HN.out]; exact h1
 by_cases l0:a < 0
 ·
  have d0:decide (a < 0)=true:=decide_eq_true (by omega)
  have HE:Hid (err k a q vs=122):=err_num H0.out H1.out (by omega)
  clear l0 h1
  go_wp2
  go_ret
  exact ⟨ret_int HE.out.symm,hB⟩
 have d0:decide (a < 0)=false:=decide_eq_false (by omega)
 by_cases g0:4294967295 < a
 ·
  have f0:decide (4294967295 < a)=true:=decide_eq_true (by omega)
  have HE:Hid (err k a q vs=122):=err_num H0.out H1.out (by omega)
  clear l0 g0 h1
  go_wp2
  go_ret
  exact ⟨ret_int HE.out.symm,hB⟩
 have f0:decide (4294967295 < a)=false:=decide_eq_false (by omega)
 by_cases l1:q < 0
 ·
  have d1:decide (q < 0)=true:=decide_eq_true (by omega)
  have HE:Hid (err k a q vs=122):=err_num H0.out H1.out (by omega)
  clear l1 h1
  go_wp2
  go_ret
  exact ⟨ret_int HE.out.symm,hB⟩
 have d1:decide (q < 0)=false:=decide_eq_false (by omega)
 by_cases g1:65535 < q
 ·
  have f1:decide (65535 < q)=true:=decide_eq_true (by omega)
  have HE:Hid (err k a q vs=122):=err_num H0.out H1.out (by omega)
  clear l1 g1 h1
  go_wp2
  go_ret
  exact ⟨ret_int HE.out.symm,hB⟩
 have f1:decide (65535 < q)=false:=decide_eq_false (by omega)
 have H2:Hid (¬ (a < 0∨4294967295 < a∨q < 0∨65535 < q)):=by show ¬ _; omega
 clear l0 g0 l1 g1
 go_wp2
 go_loopg [37] n (fun g iv wx=>∃ i:Nat,i+g=n∧iv=.int .i64 i∧Hid (∀ j (hj:j < vs.length),j < i→okV vs[j])∧wx=W2)
 case atStart=>exact ⟨0,by omega,rfl,fun j _ h=>absurd h (Nat.not_lt_zero _),rfl⟩
 case round =>
  obtain ⟨i,hi,rfl,HI,rfl⟩:=hrel
  cases gk with
  | zero =>
   obtain rfl:i=n:=by omega
   have HE:Hid (err k a q vs=0):=err_ok H0.out H1.out H2.out (fun j hj=>HI.out j hj (by rw [HN.out] at hj; exact hj))
   go_wp2
   go_ret
   exact ⟨ret_int HE.out.symm,hB⟩
  | succ r =>
   have hin:i < vs.length:=by rw [HN.out]; omega
   obtain ⟨b2,o,rfl,hc⟩:=hV2 i hin
   obtain ⟨x,hx⟩:∃ x,vs[i]=x:=⟨_,rfl⟩
   rw [hx] at hc
   have HX:=Lib.hid hx
   clear hx
   by_cases hl:x < -2147483647
   ·
    have dl:decide (x < -2147483647)=true:=decide_eq_true hl
    have HE:Hid (err k a q vs=122):=err_val H0.out H1.out H2.out hin (by rw [HX.out]; unfold okV; omega)
    clear hl
    go_wp2
    go_ret
    exact ⟨ret_int HE.out.symm,hB⟩
   have dl:decide (x < -2147483647)=false:=decide_eq_false hl
   by_cases hg:2147483647 < x
   ·
    have dg:decide (2147483647 < x)=true:=decide_eq_true hg
    have HE:Hid (err k a q vs=122):=err_val H0.out H1.out H2.out hin (by rw [HX.out]; unfold okV; omega)
    clear hl hg
    go_wp2
    go_ret
    exact ⟨ret_int HE.out.symm,hB⟩
   have dg:decide (2147483647 < x)=false:=decide_eq_false hg
   have HO:Hid (okV x):=by show okV x; unfold okV; omega
   clear hl hg
   go_wp2
   go_roundg r
   case measure=>omega
   case rel=>exact ⟨i+1,by omega,by go_num,fun j hj hji=>by
    by_cases ej:j=i
    ·
     subst ej; rw [HX.out]; exact HO.out
    ·
     exact HI.out j hj (by omega),rfl⟩
theorem fault_any {w:World} {k a q:Int} {ad:Option Addr} {n c:Nat} {vs:List Int} (hT:Tab w) (hv:Il w ad vs) (hn:vs.length=n) (hnb:n≤20000000000000):Calls Tryd.prog 16 #[.agg #[.int .i64 k,.int .i64 a,.int .i64 q,.slice ad n c]] w (PVal (.int .i64 (err k a q vs)) w) :=
 fault_w hT hv hn rfl hnb (cnt_le k)
set_option maxRecDepth 100000 in
set_option maxHeartbeats 3200000 in
theorem rright12_w {w:World} {k a q:Int} {ad:Option Addr} {n m c:Nat} {vs:List Int} (hT:True) (hv:Il w ad vs) (hn:vs.length=n) (hm:cnt k=m) (hnb:n≤20000000000000) (hmb:m≤6):Calls Tryd.prog 18 #[.agg #[.int .i64 k,.int .i64 a,.int .i64 q,.slice ad n c]] w (PVal (.int .i64 (err k a q vs)) w):=by
 have hJ0:=es_nil w
 have HT:=Lib.hid hT
 have HV:=Lib.hid hv
 have HN:=Lib.hid hn
 have HM:=Lib.hid hm
 clear hT hv hn hm
 go_enter Tryd.func18,Tryd.ntmps18
 go_wp2_with (refine stop_box 24 (.tmp 0) #[.int .i64 k,.int .i64 a,.int .i64 q,.slice ad n c] rfl rfl rfl hJ0 (fun b W1 hJ1=>?_))
 clear hJ0
 simp only [Stop,Act.put,zzC,zzD,zzE]
 have hB1:=hJ1.below
 have hM:=Mb.of hJ1 0 rfl
 clear hJ1
 have c0:=hM.c0
 go_wp2_with fail
 refine (rcount_any k W1).mono ?_
 rintro e W2 ⟨rfl,hB2⟩
 have hB:=hB1.trans (hB2.mono hB1.size)
 have hM2:=hM.below hB2
 clear c0 hM hB1 hB2
 have c1:=hM2.c1
 have c2:=hM2.c2
 have c3:=hM2.c3
 have hV2:=HV.out.below hB
 clear hM2
 rw [HM.out]
 by_cases h0:m=0
 ·
  have e0:((m:Int) == 0)=true:=by rw [h0]; rfl
  have HE:Hid (err k a q vs=120):=err_kind (by rw [HM.out]; exact h0)
  clear h0
  go_wp2
  go_ret
  exact ⟨ret_int HE.out.symm,hB⟩
 have e0:((m:Int) == 0)=false:=by rw [beq_eq_false_iff_ne]; omega
 have H0:Hid (cnt k ≠ 0):=by show _ ≠ _; rw [HM.out]; exact h0
 clear h0
 by_cases h1:n=m
 rotate_left
 ·
  have e1:((n:Int) != (m:Int))=true:=by rw [bne_iff_ne]; omega
  have HE:Hid (err k a q vs=121):=err_size H0.out (by rw [HM.out,HN.out]; exact h1)
  clear h1
  go_wp2
  go_ret
  exact ⟨ret_int HE.out.symm,hB⟩
 have e1:((n:Int) != (m:Int))=false:=by rw [bne_eq_false_iff_eq]; omega
 have H1:Hid (vs.length=cnt k):=by show _=_; rw [HM.out,HN.out]; exact h1
 by_cases l0:a < 0
 ·
  have d0:decide (a < 0)=true:=decide_eq_true (by omega)
  have HE:Hid (err k a q vs=122):=err_num H0.out H1.out (by omega)
  clear l0 h1
  go_wp2
  go_ret
  exact ⟨ret_int HE.out.symm,hB⟩
 have d0:decide (a < 0)=false:=decide_eq_false (by omega)
 by_cases g0:4294967295 < a
 ·
  have f0:decide (4294967295 < a)=true:=decide_eq_true (by omega)
  have HE:Hid (err k a q vs=122):=err_num H0.out H1.out (by omega)
  clear l0 g0 h1
  go_wp2
  go_ret
  exact ⟨ret_int HE.out.symm,hB⟩
 have f0:decide (4294967295 < a)=false:=decide_eq_false (by omega)
 by_cases l1:q < 0
 ·
  have d1:decide (q < 0)=true:=decide_eq_true (by omega)
  have HE:Hid (err k a q vs=122):=err_num H0.out H1.out (by omega)
  clear l1 h1
  go_wp2
  go_ret
  exact ⟨ret_int HE.out.symm,hB⟩
 have d1:decide (q < 0)=false:=decide_eq_false (by omega)
 by_cases g1:65535 < q
 ·
  have f1:decide (65535 < q)=true:=decide_eq_true (by omega)
  have HE:Hid (err k a q vs=122):=err_num H0.out H1.out (by omega)
  clear l1 g1 h1
  go_wp2
  go_ret
  exact ⟨ret_int HE.out.symm,hB⟩
 have f1:decide (65535 < q)=false:=decide_eq_false (by omega)
 have H2:Hid (¬ (a < 0∨4294967295 < a∨q < 0∨65535 < q)):=by show ¬ _; omega
 clear l0 g0 l1 g1
 go_wp2
 go_loopg [4] n (fun g iv wx=>∃ i:Nat,i+g=n∧iv=.int .i64 i∧Hid (∀ j (hj:j < vs.length),j < i→okV vs[j])∧wx=W2)
 case atStart=>exact ⟨0,by omega,rfl,fun j _ h=>absurd h (Nat.not_lt_zero _),rfl⟩
 case round =>
  obtain ⟨i,hi,rfl,HI,rfl⟩:=hrel
  cases gk with
  | zero =>
   obtain rfl:i=n:=by omega
   have HE:Hid (err k a q vs=0):=err_ok H0.out H1.out H2.out (fun j hj=>HI.out j hj (by rw [HN.out] at hj; exact hj))
   have hlt:¬ (i:Int) < (m:Int):=by omega
   go_wp2
   go_ret
   exact ⟨ret_int HE.out.symm,hB⟩
  | succ r =>
   have hin:i < vs.length:=by rw [HN.out]; omega
   obtain ⟨b2,o,rfl,hc⟩:=hV2 i hin
   obtain ⟨x,hx⟩:∃ x,vs[i]=x:=⟨_,rfl⟩
   rw [hx] at hc
   have HX:=Lib.hid hx
   clear hx
   have hlt:(i:Int) < (m:Int):=by omega
   by_cases hl:x < -2147483647
   ·
    have dl:decide (x < -2147483647)=true:=decide_eq_true hl
    have HE:Hid (err k a q vs=122):=err_val H0.out H1.out H2.out hin (by rw [HX.out]; unfold okV; omega)
    clear hl
    go_wp2
    go_ret
    exact ⟨ret_int HE.out.symm,hB⟩
   have dl:decide (x < -2147483647)=false:=decide_eq_false hl
   by_cases hg:2147483647 < x
   ·
    have dg:decide (2147483647 < x)=true:=decide_eq_true hg
    have HE:Hid (err k a q vs=122):=err_val H0.out H1.out H2.out hin (by rw [HX.out]; unfold okV; omega)
    clear hl hg
    go_wp2
    go_ret
    exact ⟨ret_int HE.out.symm,hB⟩
   have dg:decide (2147483647 < x)=false:=decide_eq_false hg
   have HO:Hid (okV x):=by show okV x; unfold okV; omega
   clear hl hg
   go_wp2
   go_roundg r
   case measure=>omega
   case rel=>exact ⟨i+1,by omega,by go_num,fun j hj hji=>by
    by_cases ej:j=i
    ·
     subst ej; rw [HX.out]; exact HO.out
    ·
     exact HI.out j hj (by omega),rfl⟩
theorem rright12_any {w:World} {k a q:Int} {ad:Option Addr} {n c:Nat} {vs:List Int} (hT:True) (hv:Il w ad vs) (hn:vs.length=n) (hnb:n≤20000000000000):Calls Tryd.prog 18 #[.agg #[.int .i64 k,.int .i64 a,.int .i64 q,.slice ad n c]] w (PVal (.int .i64 (err k a q vs)) w) :=
 rright12_w hT hv hn rfl hnb (cnt_le k)
section
variable {P:Program} {ops:Array Oper} {Q:Exit→Act→World→Prop} {a:Act} {w W:World} {rest:List Oper} {o:Oper} {l:List (Nat × Array Value × TypeId)}
theorem run_loadAgg {T T':TypeId} {b off n:Nat} {C:Array Value} (h:Cl W (b,C,T')) (hagg:∀ W,(isAgg T).run P W=.ok true W) (hn:∀ W,(sizeOf T).run P W=.ok n W) (hs:off+n≤C.size):(Instr.loadAt T (.pointer (some ⟨b,off,none⟩))).run P W=.ok (.agg (C.extract off (off+n))) W:=by
 have hc:W.heap[b]?=some (.cells C T' (0,0)):=h
 have hlen:(C.extract off (off+n)).toList.length=n:=by
  rw [Array.length_toList,Array.size_extract]
  omega
 have hl:=run_loadCells_list (P:=P) W ⟨b,off,none⟩ (C.extract off (off+n)).toList (fun j v hj=>by
  have hadd:(⟨b,off,none⟩:Addr).add j=⟨b,off+j,none⟩:=by unfold Addr.add; split <;> simp_all
  rw [hadd]
  have hj2:j < n:=by rw [← hlen]; exact (List.getElem?_eq_some_iff.1 hj).1
  rw [Array.getElem?_toList,Array.getElem?_extract,if_pos (by omega)] at hj
  simp [World.cell?,hc,hj])
 rw [hlen,Array.toArray_toList] at hl
 unfold Instr.loadAt loadVar
 have hsa:(Instr.sureAddr (.pointer (some ⟨b,off,none⟩))).run P W=.ok ⟨b,off,none⟩ W:=rfl
 simp only [Sem.run_bind,hsa,Result.andThen,hagg,hn,if_true,hl]
 rfl
theorem wp_load {next:Act→World→Prop} (T:TypeId) (p:Operand) (ho:o.op=.load T p) (b off n:Nat) (C D:Array Value) (T':TypeId) (h:Cl W (b,C,T')) (hp:a.eval p=.pointer (some ⟨b,off,none⟩)) (hagg:∀ W,(isAgg T).run P W=.ok true W) (hn:∀ W,(sizeOf T).run P W=.ok n W) (hs:off+n≤C.size) (hD:C.extract off (off+n)=D) (k:next (a.put o.dst (.agg D)) W):o.wp P a W next Q:=by
 have e:(execOp a.eval o).run P W=.ok (.value (.agg D)) W:=by
  unfold execOp
  rw [ho]
  simp only [hp,Sem.run_bind,run_loadAgg h hagg hn hs,Result.andThen,hD]
  rfl
 unfold Oper.wp
 rw [e]
 exact k
theorem stop_load (T:TypeId) (p:Operand) (j b off n:Nat) (C D:Array Value) (T':TypeId) (hg:o.guard=none) (ho:o.op=.load T p) (hp:a.eval p=.pointer (some ⟨b,off,none⟩)) (h:Es w W l) (hj:l[j]?=some (b,C,T')) (hagg:∀ W,(isAgg T).run P W=.ok true W) (hn:∀ W,(sizeOf T).run P W=.ok n W) (hs:off+n≤C.size) (hD:C.extract off (off+n)=D) (k:Stop (wpList P ops Q rest (a.put o.dst (.agg D)) W)):wpList P ops Q (o :: rest) a W :=
 wpList_plain hg fun K hK=>wp_load T p ho b off n C D T' (h.at' _ (List.mem_of_getElem? hj)) hp hagg hn hs hD (hK _ _ k)
end
theorem sz2 (W:World):(sizeOf 2).run Tryd.prog W=.ok 1 W:=by kernel_rfl
section
variable {P:Program} {Q:Exit→Act→World→Prop} {a:Act} {w W:World} {o:Oper} {next:Act→World→Prop} {v:Value}
theorem wp_run (e:(execOp a.eval o).run P W=.ok (.value v) W) (k:next (a.put o.dst v) W):o.wp P a W next Q:=by
 unfold Oper.wp
 rw [e]
 exact k
theorem wp_bld (T:TypeId) (parts:Array (Nat × Operand)) (ho:o.op=.build T parts) {pv:Array (Nat × Value)} (hp:parts.map (fun (i,x)=>(i,a.eval x))=pv) (hr:∀ W,(Instr.build T pv).run P W=.ok v W) (k:next (a.put o.dst v) W):o.wp P a W next Q:=by
 refine wp_run ?_ k
 unfold execOp
 rw [ho]
 simp only [hp,Sem.run_bind,hr,Result.andThen]
 rfl
end
section
variable {P:Program} {ops:Array Oper} {Q:Exit→Act→World→Prop} {a:Act} {w W:World} {rest:List Oper} {o:Oper} {l:List (Nat × Array Value × TypeId)} {v:Value}
/-- One operation of an ordered region. -/
theorem zso (hg:o.guard=none) (h:∀ K,(∀ a' W',Stop (wpList P ops Q rest a' W')→K a' W')→o.wp P a W K Q):wpList P ops Q (o :: rest) a W :=
 wpList_plain hg fun K hK=>h K (fun a' W' hs=>hK a' W' hs)
end
end Go.Proofs.YtcoenncgoepadaaDoor
