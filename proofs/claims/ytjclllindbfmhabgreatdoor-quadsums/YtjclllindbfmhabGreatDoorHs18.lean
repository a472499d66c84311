/- Parts of the proof. -/
import Derived.Test.YtjclllindbfmhabGreatDoorHs3
import Derived.Test.YtjclllindbfmhabGreatDoorHs1
import Derived.Test.YtjclllindbfmhabGreatDoorHs15
import Derived.Test.YtjclllindbfmhabGreatDoorHs17
set_option linter.unusedSimpArgs false
set_option linter.unusedVariables false
namespace Go.Proofs.YtjclllindbfmhabGreatDoor
/- Regions in which variables are made and stored in, in any order; variables of any kind, wherever they lie. No statement of the seat is proved here. -/
open Go Go.RowKit
section
variable {P:Program}
end
/-- Variables and what they hold. -/
def Cl (W:World) (p:Nat × Array Value × TypeId):Prop:=W.heap[p.1]?=some (.cells p.2.1 p.2.2 (0,0))
theorem Cl.below {W W':World} {p:Nat × Array Value × TypeId} (h:Cl W p) (hb:Below W.heap.size W W'):Cl W' p:=by
 unfold Cl at h ⊢
 rw [hb.block _ (Array.getElem?_eq_some_iff.1 h).1]
 exact h
/-- A number of the document's: its parts, its value. -/
structure NR where
 b:Bool
 a:Option Addr
 n:Nat
 c:Nat
 z:Int
section
variable {w W:World} {m:Nat} {l:List (Nat × Array Value × TypeId)} {ns:List NR} {T:TypeId} {al:List Nat} {sts:List (Nat × Nat × Nat)} {L:Nat→Bool} {u:Nat→Value}
theorem upd_mono {i j:Nat} (h:L j=true):upd L i j=true:=by
 unfold upd
 split
 ·
  rfl
 ·
  exact h
theorem updV_ne {i j:Nat} {v:Value} (h:j ≠ i):updV u i v j=u j:=if_neg h
end
/-- Variables and what they hold, all of them made since w, no two of them the same. -/
structure Es (w W:World) (l:List (Nat × Array Value × TypeId)):Prop where
 below:Below w.heap.size w W
 at':∀ p,p ∈ l→Cl W p
 nd:(l.map (·.1)).Nodup
 ge:∀ p,p ∈ l→w.heap.size≤p.1
section
variable {w W W':World} {l:List (Nat × Array Value × TypeId)}
theorem es_nil (w:World):Es w w []:=⟨Below.refl _ _,nofun,List.nodup_nil,nofun⟩
theorem Es.later (h:Es w W l) (hb:Below W.heap.size W W'):Es w W' l:=⟨h.below.trans (hb.mono h.below.size),fun p hp=>(h.at' p hp).below hb,h.nd,h.ge⟩
theorem Es.lt (h:Es w W l):∀ p,p ∈ l→p.1 < W.heap.size:=fun p hp=>(Array.getElem?_eq_some_iff.1 (h.at' p hp)).1
theorem Es.new (h:Es w W l) (C:Array Value) (T:TypeId):Es w (W.alloc (.cells C T)) ((W.heap.size,C,T) :: l):=by
 have hb:Below W.heap.size W (W.alloc (.cells C T)):=(Below.refl _ _).alloc (Nat.le_refl _) _
 refine ⟨(h.later hb).below,fun p hp=>?_,?_,fun p hp=>?_⟩
 ·
  rcases List.mem_cons.1 hp with rfl | hp
  ·
   exact heap_new W _
  ·
   exact (h.later hb).at' p hp
 ·
  refine List.nodup_cons.2 ⟨fun hm=>?_,h.nd⟩
  obtain ⟨p,hp,e⟩:=List.mem_map.1 hm
  have:=h.lt p hp
  change p.1=W.heap.size at e
  omega
 ·
  rcases List.mem_cons.1 hp with rfl | hp
  ·
   exact h.below.size
  ·
   exact h.ge p hp
theorem Es.sub {l':List (Nat × Array Value × TypeId)} (h:Es w W l) (hs:l'.Sublist l):Es w W l':=⟨h.below,fun p hp=>h.at' p (hs.subset hp),(hs.map _).nodup h.nd,fun p hp=>h.ge p (hs.subset hp)⟩
theorem Es.cell (h:Es w W l) (j:Nat) {b:Nat} {C:Array Value} {T:TypeId} (hj:l[j]?=some (b,C,T)) (i:Nat) {v:Value} (hi:C[i]?=some v):W.cell? ⟨b,i,none⟩=some v:=by
 have hc:W.heap[b]?=some (.cells C T (0,0)):=h.at' _ (List.mem_of_getElem? hj)
 simp [World.cell?,hc,hi]
theorem Es.free (h:Es w W l) (j:Nat) {b:Nat} {C:Array Value} {T:TypeId} (hj:l[j]?=some (b,C,T)) (i:Nat):W.frozen? ⟨b,i,none⟩=false:=by
 have hc:W.heap[b]?=some (.cells C T (0,0)):=h.at' _ (List.mem_of_getElem? hj)
 simp [World.frozen?,hc]
theorem nodup_get {α:Type} {l:List α} (h:l.Nodup) {i j:Nat} {x:α} (hi:l[i]?=some x) (hj:l[j]?=some x):i=j:=by
 obtain ⟨h1,e1⟩:=List.getElem?_eq_some_iff.1 hi
 obtain ⟨h2,e2⟩:=List.getElem?_eq_some_iff.1 hj
 exact (List.getElem_inj h).1 (e1.trans e2.symm)
theorem Es.put1 (h:Es w W l) {j:Nat} {b:Nat} {C:Array Value} {T:TypeId} (hj:l[j]?=some (b,C,T)) (i:Nat) (v:Value):Es w (W.setCell ⟨b,i,none⟩ v) (l.set j (b,C.setIfInBounds i v,T)):=by
 have hc:W.heap[b]?=some (.cells C T (0,0)):=h.at' _ (List.mem_of_getElem? hj)
 have hjl:=(List.getElem?_eq_some_iff.1 hj).1
 have hmap:(l.set j (b,C.setIfInBounds i v,T)).map (·.1)=l.map (·.1):=by
  rw [List.map_set]
  refine List.ext_getElem? fun k=>?_
  rw [List.getElem?_set]
  split
  ·
   next e =>
   subst e
   simp [hjl,(List.getElem?_eq_some_iff.1 hj).2]
  ·
   rfl
 have hge:=h.ge _ (List.mem_of_getElem? hj)
 refine ⟨h.below.setCell (p:=⟨b,i,none⟩) hge _,fun p hp=>?_,hmap ▸ h.nd,fun p hp=>?_⟩
 ·
  obtain ⟨k,hk⟩:=List.mem_iff_getElem?.1 hp
  rw [List.getElem?_set] at hk
  by_cases e:j=k
  ·
   rw [if_pos e,if_pos hjl] at hk
   cases hk
   show (W.setCell ⟨b,i,none⟩ v).heap[b]?=_
   simp [World.setCell,Array.getElem?_modify,hc]
  ·
   rw [if_neg e] at hk
   have hne:p.1 ≠ b:=by
    intro hc'
    refine e (nodup_get h.nd (i:=j) (j:=k) (x:=b) ?_ ?_)
    ·
     simp [hj]
    ·
     simp [hk,hc']
   show (W.setCell ⟨b,i,none⟩ v).heap[p.1]?=_
   rw [heap_set_ne _ _ hne]
   exact h.at' p (List.mem_of_getElem? hk)
 ·
  obtain ⟨k,hk⟩:=List.mem_iff_getElem?.1 hp
  rw [List.getElem?_set] at hk
  by_cases e:j=k
  ·
   rw [if_pos e,if_pos hjl] at hk
   cases hk
   exact hge
  ·
   rw [if_neg e] at hk
   exact h.ge p (List.mem_of_getElem? hk)
/-- Cells stored from a place on. -/
def putC (C:Array Value) (off:Nat):List Value→Array Value
 | []=>C
 | v :: r=>putC (C.setIfInBounds off v) (off+1) r
theorem set_set' {α:Type}:∀ (l:List α) (j:Nat) (x y:α),(l.set j x).set j y=l.set j y
 | [],_,_,_=>rfl
 | _ :: _,0,_,_=>rfl
 | a :: l,j+1,x,y=>by
  show a :: (l.set j x).set j y=_
  rw [set_set' l j x y]
  rfl
theorem run_storeCells {P:Program} (b off:Nat) (T:TypeId):∀ (vs:List Value) (i:Nat) (C:Array Value) (l:List (Nat × Array Value × TypeId)) (j:Nat) (W:World),Es w W l→l[j]?=some (b,C,T)→off+i+vs.length≤C.size→vs.all (·.oneCell')=true →
  ∃ W',(storeCells ⟨b,off,none⟩ vs i).run P W=.ok () W'∧Es w W' (l.set j (b,putC C (off+i) vs,T))∧(∀ k,k ≠ b→W'.heap[k]?=W.heap[k]?)∧W'.heap.size=W.heap.size
 | [],i,C,l,j,W,h,hj,_,_=>by
  refine ⟨W,rfl,?_,fun _ _=>rfl,rfl⟩
  have e:l.set j (b,C,T)=l:=by
   refine List.ext_getElem? fun k=>?_
   rw [List.getElem?_set]
   split
   ·
    next e=>subst e; rw [if_pos (List.getElem?_eq_some_iff.1 hj).1,hj]
   ·
    rfl
  show Es w W (l.set j (b,C,T))
  rw [e]
  exact h
 | v :: r,i,C,l,j,W,h,hj,hs,hb=>by
  have hjl:=(List.getElem?_eq_some_iff.1 hj).1
  rw [List.length_cons] at hs
  have hlt:off+i < C.size:=by omega
  have c1:=h.cell j hj (off+i) (Array.getElem?_eq_getElem hlt)
  have c2:=h.free j hj (off+i)
  have hv:v.oneCell'=true:=by rw [List.all_cons,Bool.and_eq_true] at hb; exact hb.1
  have hr:r.all (·.oneCell')=true:=by rw [List.all_cons,Bool.and_eq_true] at hb; exact hb.2
  have h1:=h.put1 hj (off+i) v
  obtain ⟨W',e1,e2,e3,e4⟩:=run_storeCells b off T r (i+1) (C.setIfInBounds (off+i) v) _ j _ h1 (by rw [List.getElem?_set,if_pos rfl,if_pos hjl]) (by rw [Array.size_setIfInBounds]; omega) hr
  refine ⟨W',?_,?_,fun k hk=>(e3 k hk).trans (heap_set_ne _ _ hk),e4.trans (World.size_setCell _ _ _)⟩
  ·
   have hadd:(⟨b,off,none⟩:Addr).add i=⟨b,off+i,none⟩:=by unfold Addr.add; split <;> simp_all
   rw [← e1]
   simp only [storeCells,Sem.run_bind,hadd,run_store P W _ v _ hv,c1,c2]
   rfl
  ·
   rw [set_set'] at e2
   exact e2
end
theorem putC_list:∀ (vs:List Value) (off:Nat) (C:Array Value),off+vs.length≤C.size→(putC C off vs).toList=C.toList.take off++vs++C.toList.drop (off+vs.length)
 | [],off,C,_=>by simp [putC]
 | v :: r,off,C,h=>by
  rw [List.length_cons] at h
  show (putC (C.setIfInBounds off v) (off+1) r).toList=_
  rw [putC_list r (off+1) _ (by rw [Array.size_setIfInBounds]; omega),Array.toList_setIfInBounds]
  have hl:off < C.toList.length:=by rw [Array.length_toList]; omega
  rw [List.take_set,List.drop_set_of_lt (by omega),List.length_cons,show off+1+r.length=off+(r.length+1) by omega]
  have e:(C.toList.take (off+1)).set off v=C.toList.take off++[v]:=by
   rw [List.take_succ_eq_append_getElem hl,List.set_append_right _ _ (by simp; omega)]
   have hl2:off≤C.size:=by omega
   simp [Nat.min_eq_left hl2]
  rw [e]
  simp
theorem putC_full {C:Array Value} {vs:List Value} (h:C.size=vs.length):putC C 0 vs=vs.toArray:=by
 have:=putC_list vs 0 C (by omega)
 rw [List.take_zero,List.nil_append,List.drop_of_length_le (by rw [Array.length_toList]; omega),List.append_nil] at this
 rw [← Array.toArray_toList (xs:=putC C 0 vs),this]
theorem zet {a:Act} {t:Nat} {v:Value} (h:a.tmps[t]?=some v):a.eval (.tmp t)=v:=by
 show (a.tmps.getD t undef)=v
 rw [Array.getD_eq_getD_getElem?,h]
 rfl
/-- A goal that the walk does not go into. -/
def Stop (p:Prop):Prop:=p
section
variable {P:Program} {ops:Array Oper} {Q:Exit→Act→World→Prop} {a:Act} {w W:World} {rest:List Oper} {o:Oper} {l:List (Nat × Array Value × TypeId)}
theorem wp_alloc {next:Act→World→Prop} (T:TypeId) (ho:o.op=.alloc T) (z:Value) (hz:∀ W,(zeroValue T).run P W=.ok z W) (k:next (a.put o.dst (.pointer (some ⟨W.heap.size,0,none⟩))) (W.alloc (.cells z.cells T))):o.wp P a W next Q:=by
 have e:(execOp a.eval o).run P W=.ok (.value (.pointer (some ⟨W.heap.size,0,none⟩))) (W.alloc (.cells z.cells T)):=by
  unfold execOp
  rw [ho]
  simp only [Instr.alloc,newVar,newRow,Sem.run_bind,hz,Result.andThen,run_newObj_alloc]
  rfl
 unfold Oper.wp
 rw [e]
 exact k
theorem wp_box {next:Act→World→Prop} (T:TypeId) (x:Operand) (ho:o.op=.box T x) (k:next (a.put o.dst (.pointer (some ⟨W.heap.size,0,none⟩))) (W.alloc (.cells (a.eval x).cells T))):o.wp P a W next Q:=by
 have e:(execOp a.eval o).run P W=.ok (.value (.pointer (some ⟨W.heap.size,0,none⟩))) (W.alloc (.cells (a.eval x).cells T)):=by
  unfold execOp
  rw [ho]
  simp only [Instr.box,newVar,newRow,Sem.run_bind,Result.andThen,run_newObj_alloc]
  rfl
 unfold Oper.wp
 rw [e]
 exact k
theorem wp_store {next:Act→World→Prop} (T:TypeId) (p x:Operand) (ho:o.op=.store T p x) (j b off:Nat) (C:Array Value) (T':TypeId) (n:Nat) (vs:List Value) (h:Es w W l) (hj:l[j]?=some (b,C,T')) (hp:a.eval p=.pointer (some ⟨b,off,none⟩)) (hx:(a.eval x).cells.toList=vs) (hn:∀ W,(sizeOf T).run P W=.ok n W) (hv:vs.length=n) (hs:off+n≤C.size) (hb:vs.all (·.oneCell')=true)
  (k:∀ W',Es w W' (l.set j (b,putC C off vs,T'))→(∀ k,k ≠ b→W'.heap[k]?=W.heap[k]?)→W'.heap.size=W.heap.size→next (a.put o.dst undef) W'):o.wp P a W next Q:=by
 obtain ⟨W',e1,e2,e4,e5⟩:=run_storeCells (P:=P) b off T' vs 0 C l j W h hj (by omega) hb
 have hsz:(a.eval x).cells.size=n:=by rw [← Array.length_toList,hx,hv]
 have e3:(Instr.storeAt T (a.eval p) (a.eval x)).run P W=.ok () W':=by
  rw [hp]
  unfold Instr.storeAt storeVar
  have hsa:(Instr.sureAddr (.pointer (some ⟨b,off,none⟩))).run P W=.ok ⟨b,off,none⟩ W:=rfl
  simp only [Sem.run_bind,hsa,Result.andThen,hn,hsz,hx]
  rw [if_neg (by simp)]
  exact e1
 have e:(execOp a.eval o).run P W=.ok .skip W':=by
  unfold execOp
  rw [ho]
  simp only [Sem.run_bind,e3,Result.andThen]
  rfl
 unfold Oper.wp
 rw [e]
 exact k W' e2 e4 e5
end
section
variable {w W:World} {m:Nat} {l:List (Nat × Array Value × TypeId)} {al:List (Nat × Nat × TypeId)} {sts:List (Nat × Nat × Array Value × TypeId)} {L:Nat→Bool} {u:Nat→Value}
end
section
variable {P:Program} {ops:Array Oper} {Q:Exit→Act→World→Prop} {a:Act} {w W:World} {rest:List Oper} {o:Oper} {l:List (Nat × Array Value × TypeId)}
theorem run_loadAgg {T T':TypeId} {b off n:Nat} {C:Array Value} (h:Cl W (b,C,T')) (hagg:∀ W,(isAgg T).run P W=.ok true W) (hn:∀ W,(sizeOf T).run P W=.ok n W) (hs:off+n≤C.size):(Instr.loadAt T (.pointer (some ⟨b,off,none⟩))).run P W=.ok (.agg (C.extract off (off+n))) W:=by
 have hc:W.heap[b]?=some (.cells C T' (0,0)):=h
 have hlen:(C.extract off (off+n)).toList.length=n:=by
  rw [Array.length_toList,Array.size_extract]
  omega
 have hl:=run_loadCells_list (P:=P) W ⟨b,off,none⟩ (C.extract off (off+n)).toList (fun j v hj=>by
  have hadd:(⟨b,off,none⟩:Addr).add j=⟨b,off+j,none⟩:=by unfold Addr.add; split <;> simp_all
  rw [hadd]
  have hj2:j < n:=by rw [← hlen]; exact (List.getElem?_eq_some_iff.1 hj).1
  rw [Array.getElem?_toList,Array.getElem?_extract,if_pos (by omega)] at hj
  simp [World.cell?,hc,hj])
 rw [hlen,Array.toArray_toList] at hl
 unfold Instr.loadAt loadVar
 have hsa:(Instr.sureAddr (.pointer (some ⟨b,off,none⟩))).run P W=.ok ⟨b,off,none⟩ W:=rfl
 simp only [Sem.run_bind,hsa,Result.andThen,hagg,hn,if_true,hl]
 rfl
theorem wp_load {next:Act→World→Prop} (T:TypeId) (p:Operand) (ho:o.op=.load T p) (b off n:Nat) (C D:Array Value) (T':TypeId) (h:Cl W (b,C,T')) (hp:a.eval p=.pointer (some ⟨b,off,none⟩)) (hagg:∀ W,(isAgg T).run P W=.ok true W) (hn:∀ W,(sizeOf T).run P W=.ok n W) (hs:off+n≤C.size) (hD:C.extract off (off+n)=D) (k:next (a.put o.dst (.agg D)) W):o.wp P a W next Q:=by
 have e:(execOp a.eval o).run P W=.ok (.value (.agg D)) W:=by
  unfold execOp
  rw [ho]
  simp only [hp,Sem.run_bind,run_loadAgg h hagg hn hs,Result.andThen,hD]
  rfl
 unfold Oper.wp
 rw [e]
 exact k
end
theorem sz2 (W:World):(sizeOf 2).run Tryz.prog W=.ok 1 W:=by kernel_rfl
section
variable {P:Program} {Q:Exit→Act→World→Prop} {a:Act} {w W:World} {o:Oper} {next:Act→World→Prop} {v:Value}
theorem wp_run (e:(execOp a.eval o).run P W=.ok (.value v) W) (k:next (a.put o.dst v) W):o.wp P a W next Q:=by
 unfold Oper.wp
 rw [e]
 exact k
theorem wp_move (x:Operand) (ho:o.op=.move x) (hv:a.eval x=v) (k:next (a.put o.dst v) W):o.wp P a W next Q:=by
 refine wp_run ?_ k
 unfold execOp
 rw [ho]
 simp only [hv]
 rfl
theorem wp_asgn (x:Operand) (ho:o.op=.assign x) (hv:a.eval x=v) (k:next (a.put o.dst v) W):o.wp P a W next Q:=by
 refine wp_run ?_ k
 unfold execOp
 rw [ho]
 simp only [hv]
 rfl
theorem wp_ixa (T:TypeId) (p x:Operand) (ho:o.op=.indexAddr T p x) {pv iv:Value} (hp:a.eval p=pv) (hx:a.eval x=iv) (hr:∀ W,(Instr.indexAt T pv iv).run P W=.ok v W) (k:next (a.put o.dst v) W):o.wp P a W next Q:=by
 refine wp_run ?_ k
 unfold execOp
 rw [ho]
 simp only [hp,hx,Sem.run_bind,hr,Result.andThen]
 rfl
theorem wp_fda (T:TypeId) (p:Operand) (f:Nat) (ho:o.op=.fieldAddr T p f) {pv:Value} (hp:a.eval p=pv) (hr:∀ W,(Instr.fieldAt T pv f).run P W=.ok v W) (k:next (a.put o.dst v) W):o.wp P a W next Q:=by
 refine wp_run ?_ k
 unfold execOp
 rw [ho]
 simp only [hp,Sem.run_bind,hr,Result.andThen]
 rfl
theorem wp_ext (x:Operand) (n:Nat) (ho:o.op=.extract x n) {xv:Value} (hx:a.eval x=xv) (hr:∀ W,(Instr.extract xv n).run P W=.ok v W) (k:next (a.put o.dst v) W):o.wp P a W next Q:=by
 refine wp_run ?_ k
 unfold execOp
 rw [ho]
 simp only [hx,Sem.run_bind,hr,Result.andThen]
 rfl
theorem wp_bld (T:TypeId) (parts:Array (Nat × Operand)) (ho:o.op=.build T parts) {pv:Array (Nat × Value)} (hp:parts.map (fun (i,x)=>(i,a.eval x))=pv) (hr:∀ W,(Instr.build T pv).run P W=.ok v W) (k:next (a.put o.dst v) W):o.wp P a W next Q:=by
 refine wp_run ?_ k
 unfold execOp
 rw [ho]
 simp only [hp,Sem.run_bind,hr,Result.andThen]
 rfl
theorem bmap3 {i j k:Nat} {x y z:Operand} {u v t:Value} (h1:a.eval x=u) (h2:a.eval y=v) (h3:a.eval z=t):#[(i,x),(j,y),(k,z)].map (fun (i,x)=>(i,a.eval x))=#[(i,u),(j,v),(k,t)]:=by simp [h1,h2,h3]
theorem run_loadOne {T T':TypeId} {b off:Nat} {C:Array Value} (h:Cl W (b,C,T')) (hagg:∀ W,(isAgg T).run P W=.ok false W) (hc:C[off]?=some v):(Instr.loadAt T (.pointer (some ⟨b,off,none⟩))).run P W=.ok v W:=by
 have hh:W.heap[b]?=some (.cells C T' (0,0)):=h
 have hcell:W.cell? ⟨b,off,none⟩=some v:=by simp [World.cell?,hh,hc]
 unfold Instr.loadAt loadVar
 have hsa:(Instr.sureAddr (.pointer (some ⟨b,off,none⟩))).run P W=.ok ⟨b,off,none⟩ W:=rfl
 simp only [Sem.run_bind,hsa,Result.andThen,hagg]
 simp [go_sem,hcell]
theorem wp_load1 (T:TypeId) (p:Operand) (ho:o.op=.load T p) (b off:Nat) (C:Array Value) (T':TypeId) (h:Cl W (b,C,T')) (hp:a.eval p=.pointer (some ⟨b,off,none⟩)) (hagg:∀ W,(isAgg T).run P W=.ok false W) (hc:C[off]?=some v) (k:next (a.put o.dst v) W):o.wp P a W next Q:=by
 refine wp_run ?_ k
 unfold execOp
 rw [ho]
 simp only [hp,Sem.run_bind,run_loadOne h hagg hc,Result.andThen]
 rfl
theorem wp_mkf (k':FuncId) (cs:Array Operand) (vs:Array Value) (ho:o.op=.makeFunc (.func k') #[] cs) (hc:cs.map a.eval=vs) (k:next (a.put o.dst (.func (.func k') #[] vs)) W):o.wp P a W next Q:=by
 refine wp_run ?_ k
 unfold execOp
 rw [ho]
 simp [hc,Instr.makeFunc]
end
section
variable {P:Program} {ops:Array Oper} {Q:Exit→Act→World→Prop} {a:Act} {w W:World} {rest:List Oper} {o:Oper} {l:List (Nat × Array Value × TypeId)} {v:Value}
/-- One operation of an ordered region. -/
theorem zso (hg:o.guard=none) (h:∀ K,(∀ a' W',Stop (wpList P ops Q rest a' W')→K a' W')→o.wp P a W K Q):wpList P ops Q (o :: rest) a W :=
 wpList_plain hg fun K hK=>h K (fun a' W' hs=>hK a' W' hs)
/-- One operation of an ordered region whose guard says yes. -/
theorem zsw (hw:Region.wanted o (yielded ops a.tmps)=true) (h:∀ K,(∀ a' W',Stop (wpList P ops Q rest a' W')→K a' W')→o.wp P a W K Q):wpList P ops Q (o :: rest) a W :=
 wpList_step fun K hK=>by rw [if_pos hw]; exact h K (fun a' W' hs=>hK a' W' hs)
theorem results_cell {fn:Func} {tmps:Array Value} {t n b:Nat} {T T':TypeId} {C D:Array Value} (k:Nat) (hf:fn.results=#[.cell t T]) (h:Es w W l) (hj:l[k]?=some (b,C,T')) (hagg:∀ W,(isAgg T).run P W=.ok true W) (hn:∀ W,(sizeOf T).run P W=.ok n W) (hs:n≤C.size) (hp:tmps.getD t undef=.pointer (some ⟨b,0,none⟩)) (hD:C.extract 0 (0+n)=D):(results fn tmps).run P W=.ok (.agg D) W:=by
 have hl:=run_loadAgg (P:=P) (T:=T) (off:=0) (h.at' _ (List.mem_of_getElem? hj)) hagg hn (by omega)
 rw [hD] at hl
 have hl2:(loadVar T ⟨b,0,none⟩).run P W=.ok (.agg D) W:=by
  unfold Instr.loadAt at hl
  have hsa:(Instr.sureAddr (.pointer (some ⟨b,0,none⟩))).run P W=.ok ⟨b,0,none⟩ W:=rfl
  simpa only [Sem.run_bind,hsa,Result.andThen] using hl
 unfold results
 rw [hf]
 have hp':tmps[t]?.getD undef=.pointer (some ⟨b,0,none⟩):=by rw [← Array.getD_eq_getD_getElem?]; exact hp
 simp [hp',asAddr,Sem.run_bind,hl2,Result.andThen,Sem.run_pure]
end
theorem map1 {α β:Type} {f:α→β} {a:α} {x:β} (h:f a=x):#[a].map f=#[x]:=by simp [h]
theorem map2 {α β:Type} {f:α→β} {a b:α} {x y:β} (h:f a=x) (g:f b=y):#[a,b].map f=#[x,y]:=by simp [h,g]
theorem map3 {α β:Type} {f:α→β} {a b c:α} {x y z:β} (h:f a=x) (g:f b=y) (k:f c=z):#[a,b,c].map f=#[x,y,z]:=by simp [h,g,k]
theorem map5 {α β:Type} {f:α→β} {a b c d e:α} {x y z u v:β} (h:f a=x) (g:f b=y) (k:f c=z) (l:f d=u) (m:f e=v):#[a,b,c,d,e].map f=#[x,y,z,u,v]:=by simp [h,g,k,l,m]
theorem zv30 (W:World):(zeroValue 30).run Tryz.prog W=.ok (.agg #[.bool false,.slice none 0 0]) W:=by kernel_rfl
theorem sz30 (W:World):(sizeOf 30).run Tryz.prog W=.ok 2 W:=by kernel_rfl
theorem ag30 (W:World):(isAgg 30).run Tryz.prog W=.ok true W:=by kernel_rfl
theorem zv27 (W:World):(zeroValue 27).run Tryz.prog W=.ok (.slice none 0 0) W:=by kernel_rfl
theorem sz27 (W:World):(sizeOf 27).run Tryz.prog W=.ok 1 W:=by kernel_rfl
theorem ag27 (W:World):(isAgg 27).run Tryz.prog W=.ok false W:=by kernel_rfl
theorem sz35 (W:World):(sizeOf 35).run Tryz.prog W=.ok 1 W:=by kernel_rfl
theorem ag35 (W:World):(isAgg 35).run Tryz.prog W=.ok false W:=by kernel_rfl
theorem zv25 (W:World):(zeroValue 25).run Tryz.prog W=.ok (.slice none 0 0) W:=by kernel_rfl
theorem sz25 (W:World):(sizeOf 25).run Tryz.prog W=.ok 1 W:=by kernel_rfl
theorem ag25 (W:World):(isAgg 25).run Tryz.prog W=.ok false W:=by kernel_rfl
theorem sz26 (W:World):(sizeOf 26).run Tryz.prog W=.ok 1 W:=by kernel_rfl
theorem ag26 (W:World):(isAgg 26).run Tryz.prog W=.ok false W:=by kernel_rfl
theorem sz23 (W:World):(sizeOf 23).run Tryz.prog W=.ok 1 W:=by kernel_rfl
theorem ag23 (W:World):(isAgg 23).run Tryz.prog W=.ok false W:=by kernel_rfl
theorem ag22 (W:World):(isAgg 22).run Tryz.prog W=.ok false W:=by kernel_rfl
theorem ag2 (W:World):(isAgg 2).run Tryz.prog W=.ok false W:=by kernel_rfl
theorem sz3 (W:World):(sizeOf 3).run Tryz.prog W=.ok 1 W:=by kernel_rfl
theorem ag3 (W:World):(isAgg 3).run Tryz.prog W=.ok false W:=by kernel_rfl
theorem ag102 (W:World):(isAgg 102).run Tryz.prog W=.ok false W:=by kernel_rfl
end Go.Proofs.YtjclllindbfmhabGreatDoor
